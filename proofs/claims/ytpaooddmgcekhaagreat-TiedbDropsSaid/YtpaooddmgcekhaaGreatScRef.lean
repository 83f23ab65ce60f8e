/-
  THE DOCUMENT'S Age; two lists of ids that are the same.
-/
import Derived.Test.YtpaooddmgcekhaaGreatVArg
import Derived.Test.YtpaooddmgcekhaaGreatVGet
import Derived.Laws.OwnMore
import Derived.LoopIn
import Derived.LoopNIn
import Derived.Maps.AppendAt
import Derived.OwnWalkIn
import Derived.RangeFuncBox
import Derived.RangeFuncLeaves
import Derived.RangeFuncMany
import Derived.RangeFuncNested
import Derived.RegionIn
import Derived.Shelf.Abstract
import Derived.Shelf.AbstractIn
import Derived.Sort.Grow
import Derived.Sort.KeysCollected
import Derived.Sort.MapsRangeIn
import Derived.TacticsInMore
import Derived.Lib.MinMax
import Derived.Test.YtpaooddmgcekhaaGreatWCode
import Derived.Test.YtpaooddmgcekhaaGreatVPutB
import Derived.StillTailTactics

/-
  THE DOCUMENT'S BASE in memory; the place of an id; is a number a moment.
-/
namespace Go.Proofs.YtpaooddmgcekhaaGreat.ti
set_option linter.unusedSimpArgs false
set_option linter.unusedVariables false
open Go.RowKit
theorem sizeN : (Tryz.prog.info? 75).map (·.size) = some 11 := by kernel_rfl
theorem kindN : KindE 62 75 11 120 (.agg #[.int .i64 0, .int .i64 0, .int .i64 0, .int .i64 0, .int .i64 0, .int .i64 0, .int .i64 0, .bool false, .slice none 0 0, .slice none 0 0, .int .i64 0]) cellsK := ⟨by kernel_rfl, by kernel_rfl, rfl, by decide, fun _ => rfl, fun x u hu => by simp [cellsK] at hu; rcases hu with rfl | rfl | rfl | rfl | rfl | rfl | rfl | rfl | rfl | rfl | rfl <;> rfl⟩
/-- The document's base: its pieces' lists are what came in. -/
structure RefD (w W : World) (rb : Nat) (room : Int) (K : List EnT) : Prop where
  has : ∃ (v : Value) (L : List EnK), W.heap[rb]? = some (.cells #[.int .i64 room, v] 64 (0, 0)) ∧ OwnE 75 11 cellsK W w.heap.size v L ∧ L.map EnK.e = K ∧ ∀ x ∈ L, Rd2 w x.e.t x.s
  hb : w.heap.size ≤ rb
  bel : Below w.heap.size w W
  inv : InvD room K
theorem RefD.below {w W W' : World} {rb : Nat} {room : Int} {K : List EnT} (h : RefD w W rb room K) (k : Below W.heap.size W W') : RefD w W' rb room K := by
  obtain ⟨v, L, h1, h2, h3, h4⟩ := h.has
  exact ⟨⟨v, L, (k.block rb (Array.getElem?_eq_some_iff.1 h1).1).trans h1, h2.below k, h3, h4⟩, h.hb, h.bel.trans (k.mono h.bel.size), h.inv⟩
/-- Where an id stands, or would stand. -/
def plD : List EnT → TId → Nat × Bool
  | [], _ => (0, false)
  | x :: r, i => if cmpT x.id i < 0 then ((plD r i).1 + 1, (plD r i).2) else (0, decide (cmpT x.id i = 0))
theorem plD_le : ∀ (K : List EnT) (i : TId), (plD K i).1 ≤ K.length
  | [], _ => Nat.le_refl _
  | x :: r, i => by
    unfold plD
    have := plD_le r i
    split
    · show (plD r i).1 + 1 ≤ r.length + 1
      omega
    · simp
/-- Ahead of its place all ids are less. -/
theorem plD_low : ∀ (K : List EnT) (i : TId) (k : Nat) (x : EnT), K[k]? = some x → k < (plD K i).1 → cmpT x.id i < 0
  | [], _, k, x, hx, _ => by simp at hx
  | y :: r, i, k, x, hx, hk => by
    unfold plD at hk
    split at hk
    · rename_i hc
      cases k with
      | zero => cases hx; exact hc
      | succ k => exact plD_low r i k x (by simpa using hx) (by simpa using hk)
    · simp at hk
theorem plD_at : ∀ (K : List EnT) (i : TId) (k : Nat) (x : EnT), K[k]? = some x → k = (plD K i).1 → ¬ cmpT x.id i < 0 ∧ (plD K i).2 = decide (cmpT x.id i = 0)
  | [], _, k, x, hx, _ => by simp at hx
  | y :: r, i, k, x, hx, hk => by
    unfold plD at hk ⊢
    split at hk
    · rename_i hc
      rw [if_pos hc]
      cases k with
      | zero => simp at hk
      | succ k => exact plD_at r i k x (by simpa using hx) (by simpa using hk)
    · rename_i hc
      rw [if_neg hc]
      have hk : k = 0 := hk
      subst hk
      cases hx
      exact ⟨hc, rfl⟩
theorem plD_end : ∀ (K : List EnT) (i : TId), (plD K i).1 = K.length → (plD K i).2 = false
  | [], _, _ => rfl
  | y :: r, i, h => by
    unfold plD at h ⊢
    split at h
    · rename_i hc
      rw [if_pos hc]
      exact plD_end r i (by simpa using h)
    · simp at h
/-- If all ids ahead of k are less, the place is k or behind. -/
theorem plD_ge : ∀ (K : List EnT) (i : TId) (k : Nat), k ≤ K.length → (∀ j x, j < k → K[j]? = some x → cmpT x.id i < 0) → k ≤ (plD K i).1
  | _, _, 0, _, _ => Nat.zero_le _
  | [], _, k + 1, h, _ => by simp at h
  | y :: r, i, k + 1, h, hl => by
    unfold plD
    rw [if_pos (hl 0 y (by omega) rfl)]
    have := plD_ge r i k (by simpa using h) (fun j x hj hx => hl (j + 1) x (by omega) (by simpa using hx))
    show k + 1 ≤ (plD r i).1 + 1
    omega
/-- In a row that rises an id is known where it would stand. -/
theorem plD_find : ∀ {K : List EnT} (_ : AscD K) (i : TId), (plD K i).2 = (findD K i).isSome ∧ ∀ x, findD K i = some x → K[(plD K i).1]? = some x
  | [], _, i => ⟨rfl, fun x hx => by simp [findD] at hx⟩
  | y :: r, h, i => by
    have hr : AscD r := (List.pairwise_cons.1 h).2
    obtain ⟨h1, h2⟩ := plD_find hr i
    unfold plD
    by_cases hc : cmpT y.id i < 0
    · rw [if_pos hc]
      have hne : y.id ≠ i := fun e => by rw [cmp_zero.2 e] at hc; omega
      have e : findD (y :: r) i = findD r i := by unfold findD; rw [List.find?_cons, decide_eq_false hne]
      rw [e]
      exact ⟨h1, fun x hx => by simpa using h2 x hx⟩
    · rw [if_neg hc]
      by_cases he : y.id = i
      · have e : findD (y :: r) i = some y := by unfold findD; rw [List.find?_cons, decide_eq_true he]
        rw [e]
        exact ⟨decide_eq_true (cmp_zero.2 he), fun x hx => by cases hx; rfl⟩
      · have e : findD (y :: r) i = none := findD_not fun x hx e => by
          rcases List.mem_cons.1 hx with rfl | hx
          · exact he e
          · have h3 := (List.pairwise_cons.1 h).1 x hx
            rw [e] at h3
            have := cmp_neg.2 h3
            exact hc this
        rw [e]
        exact ⟨decide_eq_false (fun q => he (cmp_zero.1 q)), fun x hx => by cases hx⟩
end Go.Proofs.YtpaooddmgcekhaaGreat.ti

/-
  THE DOCUMENT'S place; moment.
-/
namespace Go.Proofs.YtpaooddmgcekhaaGreat.ti
set_option linter.unusedSimpArgs false
set_option linter.unusedVariables false
open Go.RowKit
set_option maxHeartbeats 800000 in
set_option maxRecDepth 100000 in
theorem rmom_any (n : Int) (w : World) : Calls Tryz.prog 30 #[.int .i64 n] w fun e w' => e = .returned (.bool (decide (momD n))) ∧ w' = w := by
  by_cases h1 : 0 ≤ n
  · by_cases h2 : n ≤ 1099511627776
    · rw [show decide (momD n) = true from decide_eq_true (⟨h1, h2⟩ : momD n)]
      have d1 : decide (0 ≤ n) = true := decide_eq_true h1
      have d2 : decide (n ≤ 1099511627776) = true := decide_eq_true h2
      go_enter Tryz.func30, Tryz.ntmps30
      go_wp2
      go_ret
      exact ⟨by first | rfl | simp, rfl⟩
    · rw [show decide (momD n) = false from decide_eq_false (fun q : momD n => h2 q.2)]
      have d1 : decide (0 ≤ n) = true := decide_eq_true h1
      have d2 : decide (n ≤ 1099511627776) = false := decide_eq_false h2
      go_enter Tryz.func30, Tryz.ntmps30
      go_wp2
      go_ret
      exact ⟨by first | rfl | simp, rfl⟩
  · rw [show decide (momD n) = false from decide_eq_false (fun q : momD n => h1 q.1)]
    have d1 : decide (0 ≤ n) = false := decide_eq_false h1
    go_enter Tryz.func30, Tryz.ntmps30
    go_wp2
    go_ret
    exact ⟨by first | rfl | simp, rfl⟩
/-- Where the search stands. -/
structure PlS (w : World) (rb : Nat) (room : Int) (a : Option Addr) (n c : Nat) (L : List EnK) (i : TId) (W : World) : Prop where
  base : W.heap[rb]? = some (.cells #[.int .i64 room, .slice a n c] 64 (0, 0))
  r : RdE 11 cellsK W a L
  bx : Arr W w.heap.size 33 [.int .i64 i.d, .int .i64 i.o, .int .i64 i.k, .int .i64 i.n]
  b : Below w.heap.size w W
theorem PlS.below {w W W' : World} {rb : Nat} {room : Int} {a : Option Addr} {n c : Nat} {L : List EnK} {i : TId} (h : PlS w rb room a n c L i W) (k : Below W.heap.size W W') : PlS w rb room a n c L i W' :=
  ⟨(k.block rb (Array.getElem?_eq_some_iff.1 h.base).1).trans h.base, h.r.below k, h.bx.below k h.bx.lt, h.b.trans (k.mono h.b.size)⟩
theorem PlS.cell {w W : World} {rb : Nat} {room : Int} {a : Option Addr} {n c : Nat} {L : List EnK} {i : TId} (h : PlS w rb room a n c L i W) : W.cell? ⟨rb, 1, none⟩ = some (.slice a n c) := by
  have := h.base
  simp [World.cell?, this]
theorem PlS.keep {w W : World} {rb : Nat} {room : Int} {g o n c : Nat} {L : List EnK} {i : TId} (h : PlS w rb room (some ⟨g, o, none⟩) n c L i W) {k : Nat} {x : EnK} (hx : L[k]? = some x) : W.cell? ⟨rb, 1, none⟩ = some (.slice (some ⟨g, o, none⟩) n c) ∧ W.cell? ⟨g, o + k * 11, none⟩ = some (.int .i64 x.e.t.hd.id.d) ∧ W.cell? ⟨g, o + k * 11 + 1, none⟩ = some (.int .i64 x.e.t.hd.id.o) ∧ W.cell? ⟨g, o + k * 11 + 2, none⟩ = some (.int .i64 x.e.t.hd.id.k) ∧ W.cell? ⟨g, o + k * 11 + 3, none⟩ = some (.int .i64 x.e.t.hd.id.n) ∧ W.cell? ⟨w.heap.size, 0, none⟩ = some (.int .i64 i.d) ∧ W.cell? ⟨w.heap.size, 1, none⟩ = some (.int .i64 i.o) ∧ W.cell? ⟨w.heap.size, 2, none⟩ = some (.int .i64 i.k) ∧ W.cell? ⟨w.heap.size, 3, none⟩ = some (.int .i64 i.n) := by
  obtain ⟨g', o', e, _, hr⟩ := h.r k x hx
  cases e
  exact ⟨h.cell, hr 0 _ rfl, hr 1 _ rfl, hr 2 _ rfl, hr 3 _ rfl, h.bx.cell 0, h.bx.cell 1, h.bx.cell 2, h.bx.cell 3⟩
theorem pl_is {K : List EnT} {i : TId} {k : Nat} {x : EnT} (hx : K[k]? = some x) (hl : ∀ j y, j < k → K[j]? = some y → cmpT y.id i < 0) (hc : ¬ cmpT x.id i < 0) : (plD K i).1 = k ∧ (plD K i).2 = decide (cmpT x.id i = 0) := by
  have h1 := plD_ge K i k (by have := (List.getElem?_eq_some_iff.1 hx).1; omega) hl
  have h2 : (plD K i).1 = k := by
    rcases Nat.lt_or_ge k (plD K i).1 with q | q
    · exact absurd (plD_low K i k x hx q) hc
    · omega
  exact ⟨h2, (plD_at K i k x hx h2.symm).2⟩
theorem pl_not {K : List EnT} {i : TId} (hl : ∀ j y, j < K.length → K[j]? = some y → cmpT y.id i < 0) : (plD K i).1 = K.length ∧ (plD K i).2 = false := by
  have h1 := plD_ge K i K.length (Nat.le_refl _) hl
  have h2 := plD_le K i
  have h3 : (plD K i).1 = K.length := by omega
  exact ⟨h3, plD_end K i h3⟩
set_option maxHeartbeats 3200000 in
set_option maxRecDepth 100000 in
theorem rplace_any {w0 w : World} {rb : Nat} {room : Int} {K : List EnT} (h : RefD w0 w rb room K) (i : TId) : Calls Tryz.prog 40 #[.pointer (some ⟨rb, 0, none⟩), .agg #[.int .i64 i.d, .int .i64 i.o, .int .i64 i.k, .int .i64 i.n]] w fun e w' => e = .returned (.tuple #[.int .i64 (plD K i).1, .bool (plD K i).2]) ∧ Below w.heap.size w w' := by
  obtain ⟨v, L, hbase, hown, hLK, _⟩ := h.has
  obtain ⟨a, c, rfl, hlc, hcm⟩ := hown.shape
  obtain ⟨n, hn⟩ : ∃ n, L.length = n := ⟨_, rfl⟩
  have HN := Lib.hid hn
  have HLK := Lib.hid hLK
  have hml : maxLen ≤ 9223372036854775807 := by decide
  have hnm : n ≤ 9223372036854775807 := by omega
  rw [hn] at hbase
  have S0 : Hid (PlS w rb room a n c L i (w.alloc (.cells #[.int .i64 i.d, .int .i64 i.o, .int .i64 i.k, .int .i64 i.n] 33))) := by
    have b1 := (Below.refl w.heap.size w).alloc (Nat.le_refl _) (.cells #[.int .i64 i.d, .int .i64 i.o, .int .i64 i.k, .int .i64 i.n] 33)
    exact ⟨(b1.block rb (Array.getElem?_eq_some_iff.1 hbase).1).trans hbase, (kindN.rd hown).below b1, Arr.new w _ _, b1⟩
  have hcc := fun x : TId => rcompare_any x i
  have HC := Lib.hid hcc
  clear h hbase hown hLK hlc hcm hn hcc hml
  go_enter Tryz.func40, Tryz.ntmps40
  go_wp2
  go_loopw [6] (fun iv wr => ∃ k : Nat, k ≤ n ∧ iv = .int .i64 k ∧ Hid (∀ j y, j < k → K[j]? = some y → cmpT y.id i < 0) ∧ Hid (PlS w rb room a n c L i wr)) (fun iv _ => n - (intOf iv).toNat)
  case atStart => exact ⟨0, by omega, rfl, fun j y hj => absurd hj (Nat.not_lt_zero _), S0.out⟩
  case round =>
    obtain ⟨k, hkn, rfl, HL, HS⟩ := hrel
    clear S0
    have c1 := HS.out.cell
    by_cases hlt : k < n
    · obtain ⟨x, hx⟩ : ∃ x, L[k]? = some x := ⟨_, List.getElem?_eq_getElem (by have := HN.out; omega)⟩
      obtain ⟨g, o, rfl, hg, hr⟩ := HS.out.r k x hx
      have hxk : K[k]? = some x.e := by rw [← HLK.out, List.getElem?_map, hx]; rfl
      have HXK := Lib.hid hxk
      have HX := Lib.hid hx
      obtain ⟨cv, hcv⟩ : ∃ cv, cmpT x.e.id i = cv := ⟨_, rfl⟩
      have HCV := Lib.hid hcv
      have hcx := HC.out x.e.id
      rw [hcv] at hcx
      have HCX : Hid (∀ W, Calls Tryz.prog 57 #[.agg #[.int .i64 x.e.t.hd.id.d, .int .i64 x.e.t.hd.id.o, .int .i64 x.e.t.hd.id.k, .int .i64 x.e.t.hd.id.n], .agg #[.int .i64 i.d, .int .i64 i.o, .int .i64 i.k, .int .i64 i.n]] W fun e w' => e = .returned (.int .i64 cv) ∧ Below W.heap.size W w') := hcx
      clear hx hr hxk hcx hcv
      by_cases hc : 0 ≤ cv
      · have hd : decide (0 ≤ cv) = true := decide_eq_true hc
        have HE : Hid ((plD K i).1 = k ∧ (plD K i).2 = decide (cv = 0)) := by
          rw [← HCV.out]
          exact pl_is HXK.out HL.out (by rw [HCV.out]; omega)
        clear hc
        go_wp2
        go_region_held (fun W => W.cell? ⟨rb, 1, none⟩ = some (.slice (some ⟨g, o, none⟩) n c) ∧ W.cell? ⟨g, o + k * 11, none⟩ = some (.int .i64 x.e.t.hd.id.d) ∧ W.cell? ⟨g, o + k * 11 + 1, none⟩ = some (.int .i64 x.e.t.hd.id.o) ∧ W.cell? ⟨g, o + k * 11 + 2, none⟩ = some (.int .i64 x.e.t.hd.id.k) ∧ W.cell? ⟨g, o + k * 11 + 3, none⟩ = some (.int .i64 x.e.t.hd.id.n) ∧ W.cell? ⟨w.heap.size, 0, none⟩ = some (.int .i64 i.d) ∧ W.cell? ⟨w.heap.size, 1, none⟩ = some (.int .i64 i.o) ∧ W.cell? ⟨w.heap.size, 2, none⟩ = some (.int .i64 i.k) ∧ W.cell? ⟨w.heap.size, 3, none⟩ = some (.int .i64 i.n)) (first | exact HS.out.keep HX.out | exact (HS.out.below (Below.refl _ _).drew).keep HX.out | exact HS2.out.keep HX.out)
          (first | (go_at_call 57; (with_reducible refine (HCX.out _).mono ?_); rintro e w7 ⟨rfl, hb⟩; have HS2 := Lib.hid ((HS.out.below (Below.refl _ _).drew).below hb); clear hb))
        go_wp2
        go_ret2
        rw [HE.out.1, HE.out.2]
        exact ⟨rfl, HS2.out.b⟩
      · have hd : decide (0 ≤ cv) = false := decide_eq_false hc
        have HL2 : Hid (∀ j y, j < k + 1 → K[j]? = some y → cmpT y.id i < 0) := fun j y hj hy => by
          rcases Nat.lt_or_ge j k with q | q
          · exact HL.out j y q hy
          · have : j = k := by omega
            subst this
            have := HXK.out
            rw [this] at hy
            cases hy
            rw [HCV.out]
            omega
        clear hc
        go_wp2
        go_region_held (fun W => W.cell? ⟨rb, 1, none⟩ = some (.slice (some ⟨g, o, none⟩) n c) ∧ W.cell? ⟨g, o + k * 11, none⟩ = some (.int .i64 x.e.t.hd.id.d) ∧ W.cell? ⟨g, o + k * 11 + 1, none⟩ = some (.int .i64 x.e.t.hd.id.o) ∧ W.cell? ⟨g, o + k * 11 + 2, none⟩ = some (.int .i64 x.e.t.hd.id.k) ∧ W.cell? ⟨g, o + k * 11 + 3, none⟩ = some (.int .i64 x.e.t.hd.id.n) ∧ W.cell? ⟨w.heap.size, 0, none⟩ = some (.int .i64 i.d) ∧ W.cell? ⟨w.heap.size, 1, none⟩ = some (.int .i64 i.o) ∧ W.cell? ⟨w.heap.size, 2, none⟩ = some (.int .i64 i.k) ∧ W.cell? ⟨w.heap.size, 3, none⟩ = some (.int .i64 i.n)) (first | exact HS.out.keep HX.out | exact (HS.out.below (Below.refl _ _).drew).keep HX.out | exact HS2.out.keep HX.out)
          (first | (go_at_call 57; (with_reducible refine (HCX.out _).mono ?_); rintro e w7 ⟨rfl, hb⟩; have HS2 := Lib.hid ((HS.out.below (Below.refl _ _).drew).below hb); clear hb))
        go_wp2
        go_roundw
        case rel => exact ⟨k + 1, by omega, by go_num, HL2.out, HS2.out⟩
        case measure => simp [intOf]; omega
    · have HE : Hid ((plD K i).1 = n ∧ (plD K i).2 = false) := by
        have hK : K.length = n := by rw [← HLK.out, List.length_map]; exact HN.out
        have := pl_not (K := K) (i := i) (fun j y hj hy => HL.out j y (by omega) hy)
        rwa [hK] at this
      go_wp2
      go_ret2
      rw [HE.out.1, HE.out.2]
      exact ⟨rfl, HS.out.b⟩
end Go.Proofs.YtpaooddmgcekhaaGreat.ti

/-
  THE DOCUMENT'S told.
-/
namespace Go.Proofs.YtpaooddmgcekhaaGreat.ti
set_option linter.unusedSimpArgs false
set_option linter.unusedVariables false
open Go.RowKit
structure TlS (w : World) (x : EnK) (vs : List Value) (W : World) : Prop where
  b0 : Arr W w.heap.size 75 (cellsK x)
  b1 : Arr W (w.heap.size + 1) 39 cellsV0
  b2 : Arr W (w.heap.size + 2) 39 vs
  bel : Below w.heap.size w W
  size : w.heap.size + 3 ≤ W.heap.size
theorem TlS.step {w W W' : World} {x : EnK} {vs : List Value} (h : TlS w x vs W) (k : Below (w.heap.size + 3) W W') : TlS w x vs W' := by
  have := h.size
  exact ⟨h.b0.below k (by omega), h.b1.below k (by omega), h.b2.below k (by omega), h.bel.trans (k.mono (by omega)), by have := k.size; omega⟩
theorem TlS.set {w W : World} {x : EnK} {vs : List Value} (h : TlS w x vs W) (i : Nat) (u : Value) : TlS w x (vs.set i u) (W.setCell ⟨w.heap.size + 2, i, none⟩ u) :=
  ⟨h.b0.other (by omega) i u, h.b1.other (by omega) i u, h.b2.set i u, h.bel.setCell (p := ⟨w.heap.size + 2, i, none⟩) (by show w.heap.size ≤ w.heap.size + 2; omega) u, by have := h.size; simpa using this⟩
theorem TlS.first (w : World) (x : EnK) : TlS w x cellsV0 (((w.alloc (.cells #[.int .i64 x.e.t.hd.id.d, .int .i64 x.e.t.hd.id.o, .int .i64 x.e.t.hd.id.k, .int .i64 x.e.t.hd.id.n, .int .i64 x.e.t.hd.seq, .int .i64 x.e.t.hd.life, .int .i64 x.e.t.level, .bool x.e.t.over, .slice x.s.ea x.e.t.es.length x.s.ec, .slice x.s.ra x.e.t.rs.length x.s.rc, .int .i64 x.e.exp] 75)).alloc (.cells #[.int .i64 0, .int .i64 0, .int .i64 0, .int .i64 0, .int .i64 0, .int .i64 0, .int .i64 0, .bool false, .slice none 0 0, .slice none 0 0] 39)).alloc (.cells #[.int .i64 0, .int .i64 0, .int .i64 0, .int .i64 0, .int .i64 0, .int .i64 0, .int .i64 0, .bool false, .slice none 0 0, .slice none 0 0] 39)) := by
  have a0 := Arr.new w 75 (cellsK x)
  have a1 := Arr.new (w.alloc (.cells #[.int .i64 x.e.t.hd.id.d, .int .i64 x.e.t.hd.id.o, .int .i64 x.e.t.hd.id.k, .int .i64 x.e.t.hd.id.n, .int .i64 x.e.t.hd.seq, .int .i64 x.e.t.hd.life, .int .i64 x.e.t.level, .bool x.e.t.over, .slice x.s.ea x.e.t.es.length x.s.ec, .slice x.s.ra x.e.t.rs.length x.s.rc, .int .i64 x.e.exp] 75)) 39 cellsV0
  rw [show (w.alloc (.cells #[.int .i64 x.e.t.hd.id.d, .int .i64 x.e.t.hd.id.o, .int .i64 x.e.t.hd.id.k, .int .i64 x.e.t.hd.id.n, .int .i64 x.e.t.hd.seq, .int .i64 x.e.t.hd.life, .int .i64 x.e.t.level, .bool x.e.t.over, .slice x.s.ea x.e.t.es.length x.s.ec, .slice x.s.ra x.e.t.rs.length x.s.rc, .int .i64 x.e.exp] 75)).heap.size = w.heap.size + 1 from by simp] at a1
  have a2 := Arr.new ((w.alloc (.cells #[.int .i64 x.e.t.hd.id.d, .int .i64 x.e.t.hd.id.o, .int .i64 x.e.t.hd.id.k, .int .i64 x.e.t.hd.id.n, .int .i64 x.e.t.hd.seq, .int .i64 x.e.t.hd.life, .int .i64 x.e.t.level, .bool x.e.t.over, .slice x.s.ea x.e.t.es.length x.s.ec, .slice x.s.ra x.e.t.rs.length x.s.rc, .int .i64 x.e.exp] 75)).alloc (.cells #[.int .i64 0, .int .i64 0, .int .i64 0, .int .i64 0, .int .i64 0, .int .i64 0, .int .i64 0, .bool false, .slice none 0 0, .slice none 0 0] 39)) 39 cellsV0
  rw [show ((w.alloc (.cells #[.int .i64 x.e.t.hd.id.d, .int .i64 x.e.t.hd.id.o, .int .i64 x.e.t.hd.id.k, .int .i64 x.e.t.hd.id.n, .int .i64 x.e.t.hd.seq, .int .i64 x.e.t.hd.life, .int .i64 x.e.t.level, .bool x.e.t.over, .slice x.s.ea x.e.t.es.length x.s.ec, .slice x.s.ra x.e.t.rs.length x.s.rc, .int .i64 x.e.exp] 75)).alloc (.cells #[.int .i64 0, .int .i64 0, .int .i64 0, .int .i64 0, .int .i64 0, .int .i64 0, .int .i64 0, .bool false, .slice none 0 0, .slice none 0 0] 39)).heap.size = w.heap.size + 2 from by simp] at a2
  exact ⟨(a0.alloc _).alloc _, a1.alloc _, a2, (((Below.refl _ w).alloc (Nat.le_refl _) _).alloc (by simp) _).alloc (by simp <;> omega) _, by simp⟩
theorem TlS.stored {w W W' : World} {x : EnK} {vs us : List Value} (h : TlS w x vs W) (a : Arr W' (w.heap.size + 2) 39 us) (b : Below (w.heap.size + 2) W W') (hs : W'.heap.size = W.heap.size) (ho : ∀ k, k ≠ w.heap.size + 2 → W'.heap[k]? = W.heap[k]?) : TlS w x us W' :=
  ⟨h.b0.same ho (by omega), h.b1.same ho (by omega), a, h.bel.trans (b.mono (by omega)), by have := h.size; omega⟩
theorem own0_set {E : Type} {sl T : TypeId} {sz bytes : Nat} {z : Value} {enc : E → List Value} (K : KindE sl T sz bytes z enc) (W : World) (p : Addr) (u : Value) : OwnE T sz enc ((W.setCell p u).alloc (.cells #[] T)) W.heap.size (.slice (some ⟨W.heap.size, 0, none⟩) 0 0) [] := by
  have := K.own0 (W.setCell p u)
  rwa [show (W.setCell p u).heap.size = W.heap.size from by simp [World.setCell]] at this
theorem own_grown {E : Type} {T : TypeId} {sz : Nat} {enc : E → List Value} {W W' : World} {o : Obj} {b m : Nat} {v : Value} {l : List E} (h : OwnE T sz enc W b v l) (hm : m = W.heap.size) (hg : (W.alloc o).grownBy W' (some m)) : OwnE T sz enc W' b v l :=
  h.same fun g hgv => by
    obtain ⟨_, h2⟩ := World.ownsRow.lt h g hgv
    exact (hg.block g (by simp; omega) (fun e => by have := Option.some.inj e; omega)).trans (heap_alloc_old _ _ h2)
theorem told_set {w W : World} {x : EnK} {now lf : Int} {a1 a2 : Option Addr} {k1 k2 : Nat} (h : TlS w x (((cellsV x.e.t x.s).set 8 (.slice a1 x.e.t.es.length k1)).set 9 (.slice a2 x.e.t.rs.length k2)) W) (h1 : leftD x.e now = lf) (h2 : max (x.e.exp - now) 0 = lf) :
    TlS w x (cellsV (toldD x.e now) ⟨a1, k1, a2, k2⟩) (W.setCell ⟨w.heap.size + 2, 5, none⟩ (.int .i64 (max (x.e.exp - now) 0))) := by
  have := h.set 5 (.int .i64 (max (x.e.exp - now) 0))
  rw [h2, ← h1] at this
  rw [h2, ← h1]
  exact this
set_option maxHeartbeats 6400000 in
set_option maxRecDepth 100000 in
theorem rtold_any (x : EnK) (now : Int) (w : World) (h : Rd2 w x.e.t x.s) (hx : -9223372036854775808 ≤ x.e.exp - now ∧ x.e.exp - now ≤ 9223372036854775807) : Calls Tryz.prog 31 #[aggK x, .int .i64 now] w fun e w' => ∃ s', e = .returned (aggV (toldD x.e now) s') ∧ Own2 w' w.heap.size (toldD x.e now) s' ∧ Below w.heap.size w w' := by
  have HRD := Lib.hid h
  have HT0 := Lib.hid (TlS.first w x)
  have A0 : Hid (Arr ((w.alloc (.cells #[.int .i64 x.e.t.hd.id.d, .int .i64 x.e.t.hd.id.o, .int .i64 x.e.t.hd.id.k, .int .i64 x.e.t.hd.id.n, .int .i64 x.e.t.hd.seq, .int .i64 x.e.t.hd.life, .int .i64 x.e.t.level, .bool x.e.t.over, .slice x.s.ea x.e.t.es.length x.s.ec, .slice x.s.ra x.e.t.rs.length x.s.rc, .int .i64 x.e.exp] 75)).alloc (.cells #[.int .i64 0, .int .i64 0, .int .i64 0, .int .i64 0, .int .i64 0, .int .i64 0, .int .i64 0, .bool false, .slice none 0 0, .slice none 0 0] 39)) w.heap.size 75 (cellsK x)) := (Arr.new w 75 (cellsK x)).alloc _
  obtain ⟨lf, hlf⟩ : ∃ lf, leftD x.e now = lf := ⟨_, rfl⟩
  have hmx : max (x.e.exp - now) 0 = lf := by
    rw [← hlf]
    unfold leftD
    split <;> omega
  have HLF := Lib.hid hlf
  have HMX := Lib.hid hmx
  clear h hlf hmx
  unfold aggK
  go_enter Tryz.func31, Tryz.ntmps31
  go_wp2_with (first
    | (refine wpList_load_mid rfl 39 (.tmp 6) rfl w.heap.size 0 rfl (cellsV x.e.t x.s) _ (range_take (ds := [.int .i64 x.e.exp]) A0.out.range) Tryz.underlying39 rfl sizeV ?_)
    | (refine wpList_store_arr rfl 39 (.tmp 5) (.tmp 7) rfl (w.heap.size + 2) rfl (vs := cellsV x.e.t x.s) rfl HT0.out.b2 sizeV rfl rfl (cellsV_one _ _) ?_; intro W5 A5 B5 hs5 O5; have HT5 := Lib.hid (HT0.out.stored A5.out B5.out hs5 O5.out); clear A5 B5 hs5 O5)
    | (refine kindE.wp_build0 rfl rfl ?_; have k8 : (W5.alloc (.cells #[] 94)).cell? ⟨w.heap.size + 2, 8, none⟩ = some (.slice x.s.ea x.e.t.es.length x.s.ec) := (HT5.out.step ((Below.refl _ _).alloc HT5.out.size _)).b2.cell 8)
    | (at_builtin; refine kindE.wp_append rfl (.tmp 8) (.tmp 10) rfl (w.heap.size + 3) _ [] rfl ((kindE.own0 W5).mono HT5.out.size) x.s.ea x.e.t.es x.e.t.es.length x.s.ec rfl rfl ((HRD.out.e.below (HT5.out.bel.trans ((Below.refl _ _).alloc HT5.out.bel.size _)))) (by have := HRD.out.le; unfold maxLen; simp; omega) (by have := HRD.out.le; simp; omega) (by have := HT5.out.size; simp; omega) ?_; intro A6 n6 c6 w6 hn6 HO6 hb6 hg6; have e6 : n6 = x.e.t.es.length := hn6; subst e6; have HT6 := Lib.hid ((HT5.out.step ((Below.refl _ _).alloc HT5.out.size (.cells #[] 94))).step hb6); have HE6 := Lib.hid HO6; have f8 : w6.frozen? ⟨w.heap.size + 2, 8, none⟩ = false := HT6.out.b2.frozen 8; have q8 : w6.cell? ⟨w.heap.size + 2, 8, none⟩ = some (.slice x.s.ea x.e.t.es.length x.s.ec) := HT6.out.b2.cell 8; have HT7 := Lib.hid (HT6.out.set 8 (.slice A6 x.e.t.es.length c6)); clear hn6 HO6 hb6 hg6 k8)
    | (refine kindR.wp_build0 rfl rfl ?_; have k9 : ((w6.setCell ⟨w.heap.size + 2, 8, none⟩ (.slice A6 x.e.t.es.length c6)).alloc (.cells #[] 99)).cell? ⟨w.heap.size + 2, 9, none⟩ = some (.slice x.s.ra x.e.t.rs.length x.s.rc) := (HT7.out.step ((Below.refl _ _).alloc HT7.out.size _)).b2.cell 9)
    | (at_builtin; refine kindR.wp_append rfl (.tmp 13) (.tmp 15) rfl (w.heap.size + 3) _ [] rfl ((own0_set kindR w6 ⟨w.heap.size + 2, 8, none⟩ (.slice A6 x.e.t.es.length c6)).mono HT6.out.size) x.s.ra x.e.t.rs x.e.t.rs.length x.s.rc rfl rfl ((HRD.out.r.below (HT7.out.bel.trans ((Below.refl _ _).alloc HT7.out.bel.size _)))) (by have := HRD.out.lr; unfold maxLen; simp; omega) (by have := HRD.out.lr; simp; omega) (by have := HT7.out.size; simp at this ⊢; omega) ?_; intro A8 n8 c8 w8 hn8 HO8 hb8 hg8; have e8 : n8 = x.e.t.rs.length := hn8; subst e8; have HT8 := Lib.hid ((HT7.out.step ((Below.refl _ _).alloc HT7.out.size (.cells #[] 99))).step hb8); have HE8 := Lib.hid (own_grown (HE6.out.set (by omega : w.heap.size + 2 < w.heap.size + 3) 8 (.slice A6 x.e.t.es.length c6)) (by simp [World.setCell]) hg8); have HR8 := Lib.hid HO8; have f9 : w8.frozen? ⟨w.heap.size + 2, 9, none⟩ = false := HT8.out.b2.frozen 9; have q9 : w8.cell? ⟨w.heap.size + 2, 9, none⟩ = some (.slice x.s.ra x.e.t.rs.length x.s.rc) := HT8.out.b2.cell 9; have HT9 := Lib.hid (HT8.out.set 9 (.slice A8 x.e.t.rs.length c8)); have k10 : (w8.setCell ⟨w.heap.size + 2, 9, none⟩ (.slice A8 x.e.t.rs.length c8)).cell? ⟨w.heap.size, 10, none⟩ = some (.int .i64 x.e.exp) := HT9.out.b0.cell 10; have f5 : (w8.setCell ⟨w.heap.size + 2, 9, none⟩ (.slice A8 x.e.t.rs.length c8)).frozen? ⟨w.heap.size + 2, 5, none⟩ = false := HT9.out.b2.frozen 5; have q5 : (w8.setCell ⟨w.heap.size + 2, 9, none⟩ (.slice A8 x.e.t.rs.length c8)).cell? ⟨w.heap.size + 2, 5, none⟩ = some (.int .i64 x.e.t.hd.life) := HT9.out.b2.cell 5; have HT10 := Lib.hid (told_set HT9.out HLF.out HMX.out); clear hn8 HO8 hb8 hg8 k9)
    | (refine wpList_load_arr rfl 39 (.tmp 5) rfl (w.heap.size + 2) rfl HT10.out.b2 Tryz.underlying39 rfl sizeV rfl ?_)
    | (refine wpList_store_arr rfl 39 (.tmp 4) (.tmp 25) rfl (w.heap.size + 1) rfl (vs := cellsV (toldD x.e now) ⟨A6, c6, A8, c8⟩) rfl HT10.out.b1 sizeV rfl rfl (cellsV_one _ _) ?_; intro W11 A11 B11 hs11 O11))
  have he := (HE8.out.set (by omega : w.heap.size + 2 < w.heap.size + 3) 9 (.slice A8 x.e.t.rs.length c8)).set (by omega : w.heap.size + 2 < w.heap.size + 3) 5 (.int .i64 (max (x.e.exp - now) 0))
  have hr := (HR8.out.set (by omega : w.heap.size + 2 < w.heap.size + 3) 9 (.slice A8 x.e.t.rs.length c8)).set (by omega : w.heap.size + 2 < w.heap.size + 3) 5 (.int .i64 (max (x.e.exp - now) 0))
  refine bodyPost_ret (results_arr rfl rfl A11.out Tryz.underlying39 rfl sizeV rfl) rfl ?_
  exact ⟨⟨A6, c6, A8, c8⟩, rfl, ⟨(he.same fun g hg => O11.out g (by have := (World.ownsRow.lt he g hg).1; omega)).mono (by omega), (hr.same fun g hg => O11.out g (by have := (World.ownsRow.lt hr g hg).1; omega)).mono (by omega)⟩, HT10.out.bel.trans (B11.out.mono (by omega))⟩
end Go.Proofs.YtpaooddmgcekhaaGreat.ti

/-
  THE DOCUMENT'S New, Get.
-/
namespace Go.Proofs.YtpaooddmgcekhaaGreat.ti
set_option linter.unusedSimpArgs false
set_option linter.unusedVariables false
open Go.RowKit
set_option maxHeartbeats 1600000 in
set_option maxRecDepth 100000 in
theorem rnew_bad (room : Int) (h : ¬ (1 ≤ room ∧ room ≤ 4096)) (w : World) : Calls Tryz.prog 7 #[.int .i64 room] w fun e w' => e = .returned (.tuple #[.pointer none, .int .i64 1]) ∧ Below w.heap.size w w' := by
  by_cases h1 : room < 1
  · clear h
    go_enter Tryz.func7, Tryz.ntmps7
    go_wp2
    go_ret2
    exact ⟨rfl, Below.refl _ _⟩
  · have h2 : 4096 < room := by omega
    clear h
    go_enter Tryz.func7, Tryz.ntmps7
    go_wp2
    go_ret2
    exact ⟨rfl, Below.refl _ _⟩
theorem invD_nil {room : Int} (h : 0 ≤ room) : InvD room [] := ⟨List.Pairwise.nil, fun x hx => by simp at hx, by simpa using h⟩
set_option maxHeartbeats 1600000 in
set_option maxRecDepth 100000 in
theorem rnew_ok (room : Int) (h : 1 ≤ room ∧ room ≤ 4096) (w0 w : World) (hb : Below w0.heap.size w0 w) : Calls Tryz.prog 7 #[.int .i64 room] w fun e w' => e = .returned (.tuple #[.pointer (some ⟨w.heap.size, 0, none⟩), .int .i64 0]) ∧ RefD w0 w' w.heap.size room [] ∧ Below w.heap.size w w' := by
  have HB := Lib.hid hb
  have HR := Lib.hid h
  have h1 : ¬ room < 1 := by omega
  have h2 : ¬ 4096 < room := by omega
  have d1 : decide (room < 1) = false := decide_eq_false h1
  have d2 : decide (4096 < room) = false := decide_eq_false h2
  clear hb h h1 h2
  go_enter Tryz.func7, Tryz.ntmps7
  go_wp2
  go_ret2
  have a : Arr (w.alloc (.cells #[.int .i64 room, .slice none 0 0] 64)) w.heap.size 64 [.int .i64 room, .slice none 0 0] := Arr.new w _ _
  have b : Below w.heap.size w (w.alloc (.cells #[.int .i64 room, .slice none 0 0] 64)) := (Below.refl _ w).alloc (Nat.le_refl _) _
  exact ⟨rfl, ⟨⟨.slice none 0 0, [], a, OwnE.nil _ _, rfl, fun x hx => by simp at hx⟩, HB.out.size, HB.out.trans (b.mono HB.out.size), invD_nil (by have := HR.out; omega)⟩, b⟩
end Go.Proofs.YtpaooddmgcekhaaGreat.ti

/-
  THE DOCUMENT'S Get.
-/
namespace Go.Proofs.YtpaooddmgcekhaaGreat.ti
set_option linter.unusedSimpArgs false
set_option linter.unusedVariables false
open Go.RowKit
/-- The boxes of Get. -/
structure GbS (w0 w : World) (rb : Nat) (room : Int) (K : List EnT) (i : TId) (W : World) : Prop where
  r : RefD w0 W rb room K
  ib : Arr W w.heap.size 33 [.int .i64 i.d, .int .i64 i.o, .int .i64 i.k, .int .i64 i.n]
  bx : Arr W (w.heap.size + 1) 39 cellsV0
  b : Below w.heap.size w W
  sz : w.heap.size + 2 ≤ W.heap.size
theorem GbS.below {w0 w W W' : World} {rb : Nat} {room : Int} {K : List EnT} {i : TId} (h : GbS w0 w rb room K i W) (k : Below W.heap.size W W') : GbS w0 w rb room K i W' :=
  ⟨h.r.below k, h.ib.below k h.ib.lt, h.bx.below k h.bx.lt, h.b.trans (k.mono h.b.size), Nat.le_trans h.sz k.size⟩
theorem get_boxes {w0 w : World} {rb : Nat} {room : Int} {K : List EnT} {i : TId} (h : RefD w0 w rb room K) : GbS w0 w rb room K i ((w.alloc (.cells #[.int .i64 i.d, .int .i64 i.o, .int .i64 i.k, .int .i64 i.n] 33)).alloc (.cells #[.int .i64 0, .int .i64 0, .int .i64 0, .int .i64 0, .int .i64 0, .int .i64 0, .int .i64 0, .bool false, .slice none 0 0, .slice none 0 0] 39)) := by
  have b := ((Below.refl _ w).alloc (Nat.le_refl _) (.cells #[.int .i64 i.d, .int .i64 i.o, .int .i64 i.k, .int .i64 i.n] 33)).alloc (by simp) (.cells #[.int .i64 0, .int .i64 0, .int .i64 0, .int .i64 0, .int .i64 0, .int .i64 0, .int .i64 0, .bool false, .slice none 0 0, .slice none 0 0] 39)
  have a := Arr.new (w.alloc (.cells #[.int .i64 i.d, .int .i64 i.o, .int .i64 i.k, .int .i64 i.n] 33)) 39 cellsV0
  rw [show (w.alloc (.cells #[.int .i64 i.d, .int .i64 i.o, .int .i64 i.k, .int .i64 i.n] 33)).heap.size = w.heap.size + 1 from by simp] at a
  exact ⟨h.below b, (Arr.new w 33 [.int .i64 i.d, .int .i64 i.o, .int .i64 i.k, .int .i64 i.n]).alloc _, a, b, by simp⟩
/-- The row of what is known, at a place. -/
structure RowD (w0 W : World) (rb : Nat) (k g o n c : Nat) (x : EnK) : Prop where
  c : W.cell? ⟨rb, 1, none⟩ = some (.slice (some ⟨g, o, none⟩) n c)
  rg : W.rangeAt g (o + k * 11) (cellsK x)
  e : W.cell? ⟨g, o + k * 11 + 10, none⟩ = some (.int .i64 x.e.exp)
  rd : Rd2 w0 x.e.t x.s
  lt : k < n
theorem RowD.below {w0 W W' : World} {rb k g o n c : Nat} {x : EnK} (h : RowD w0 W rb k g o n c x) (hg : g < W.heap.size ∧ rb < W.heap.size) (b : Below W.heap.size W W') : RowD w0 W' rb k g o n c x :=
  ⟨(b.cell (p := ⟨rb, 1, none⟩) hg.2).trans h.c, fun j v hv => (b.cell (p := ⟨g, _, none⟩) hg.1).trans (h.rg j v hv), (b.cell (p := ⟨g, _, none⟩) hg.1).trans h.e, h.rd, h.lt⟩
theorem row_at {w0 W : World} {rb : Nat} {room : Int} {K : List EnT} (h : RefD w0 W rb room K) {k : Nat} {y : EnT} (hy : K[k]? = some y) : ∃ (g o n c : Nat) (x : EnK), RowD w0 W rb k g o n c x ∧ x.e = y ∧ g < W.heap.size ∧ rb < W.heap.size := by
  obtain ⟨v, L, hbs, how, hLK, hrd⟩ := h.has
  obtain ⟨a, c, rfl, _, _⟩ := how.shape
  rw [← hLK, List.getElem?_map] at hy
  obtain ⟨x, hx, rfl⟩ := Option.map_eq_some_iff.1 hy
  obtain ⟨g, o, rfl, hg, hr⟩ := (kindN.rd how) k x hx
  refine ⟨g, o, L.length, c, x, ⟨by simp [World.cell?, hbs], hr, hr 10 _ rfl, hrd x (List.mem_of_getElem? hx), (List.getElem?_eq_some_iff.1 hx).1⟩, rfl, hg, (Array.getElem?_eq_some_iff.1 hbs).1⟩
end Go.Proofs.YtpaooddmgcekhaaGreat.ti

/-
  THE DOCUMENT'S Drop.
-/
namespace Go.Proofs.YtpaooddmgcekhaaGreat.ti
set_option linter.unusedSimpArgs false
set_option linter.unusedVariables false
open Go.RowKit
/-- What the document's base is made of. -/
def refO : Obj → Prop
  | .cells _ T _ => T = 64 ∨ T = 75
  | _ => False
/-- All else stays. -/
structure KeepR (W W' : World) : Prop where
  size : W.heap.size ≤ W'.heap.size
  at' : ∀ (j : Nat) (o : Obj), W.heap[j]? = some o → ¬ refO o → W'.heap[j]? = some o
theorem KeepR.of_below {W W' : World} (h : Below W.heap.size W W') : KeepR W W' := ⟨h.size, fun j o hj _ => (h.block j (Array.getElem?_eq_some_iff.1 hj).1).trans hj⟩
theorem KeepR.trans {U V W : World} (h : KeepR U V) (k : KeepR V W) : KeepR U W := ⟨Nat.le_trans h.size k.size, fun j o hj hn => k.at' j o (h.at' j o hj hn) hn⟩
theorem KeepR.base {W : World} {rb : Nat} {cs : Array Value} {fr : Nat × Nat} (h : W.heap[rb]? = some (.cells cs 64 fr)) (i : Nat) (u : Value) : KeepR W (W.setCell ⟨rb, i, none⟩ u) :=
  ⟨by simp [World.setCell], fun j o hj hn => by
    have hne : j ≠ rb := fun e => by rw [e, h] at hj; cases hj; exact hn (.inl rfl)
    rw [← hj]
    simp [World.setCell, Array.getElem?_modify, Ne.symm hne]⟩
/-- A new row is the base's. -/
theorem RefD.turn {w0 W : World} {rb : Nat} {room : Int} {K K' : List EnT} (h : RefD w0 W rb room K) {v : Value} {L : List EnK} (ho : OwnE 75 11 cellsK W w0.heap.size v L) (hne : v.ownBlock ≠ some rb) (hL : L.map EnK.e = K') (hrd : ∀ x ∈ L, Rd2 w0 x.e.t x.s) (hi : InvD room K') : RefD w0 (W.setCell ⟨rb, 1, none⟩ v) rb room K' := by
  obtain ⟨v0, L0, h1, _, _, _⟩ := h.has
  have a : Arr W rb 64 [.int .i64 room, v0] := h1
  refine ⟨⟨v, L, a.set 1 v, ho.same fun g hg => ?_, hL, hrd⟩, h.hb, h.bel.setCell (p := ⟨rb, 1, none⟩) h.hb v, hi⟩
  have hgr : g ≠ rb := fun e => hne (by rw [hg, e])
  simp [World.setCell, Array.getElem?_modify, Ne.symm hgr]
theorem pl_rest : ∀ {K : List EnT} (_ : AscD K) {i : TId} {k : Nat}, (plD K i) = (k, true) → restD K i = K.take k ++ K.drop (k + 1)
  | [], _, i, k, h => by simp [plD] at h
  | y :: r, ha, i, k, h => by
    have hr : AscD r := (List.pairwise_cons.1 ha).2
    unfold plD at h
    by_cases hc : cmpT y.id i < 0
    · rw [if_pos hc] at h
      have hne : y.id ≠ i := fun e => by rw [cmp_zero.2 e] at hc; omega
      cases k with
      | zero => simp at h
      | succ k =>
        have h2 : plD r i = (k, true) := by
          have e1 := congrArg Prod.fst h
          have e2 := congrArg Prod.snd h
          exact Prod.ext (by simpa using e1) (by simpa using e2)
        have := pl_rest hr h2
        rw [List.take_succ_cons, List.drop_succ_cons, List.cons_append, ← this]
        unfold restD
        rw [List.filter_cons, if_pos (by simpa using hne)]
    · rw [if_neg hc] at h
      have e1 := congrArg Prod.fst h
      have e2 := congrArg Prod.snd h
      have hk : k = 0 := e1.symm
      have he : y.id = i := cmp_zero.1 (of_decide_eq_true e2)
      subst hk
      rw [List.take_zero, List.drop_succ_cons, List.drop_zero, List.nil_append]
      unfold restD
      rw [List.filter_cons, if_neg (by simp [he])]
      refine List.filter_eq_self.2 fun x hx => ?_
      have h3 := (List.pairwise_cons.1 ha).1 x hx
      have : x.id ≠ i := fun e => by rw [e, he] at h3; exact lex_irr _ h3
      simpa using this
theorem restD_none {K : List EnT} {i : TId} (h : findD K i = none) : restD K i = K := List.filter_eq_self.2 fun x hx => by have := findD_none h x hx; simpa using this
set_option maxHeartbeats 3200000 in
set_option maxRecDepth 100000 in
theorem rdrop_none {w0 w : World} {rb : Nat} {room : Int} {K : List EnT} (h : RefD w0 w rb room K) (i : TId) (hpb : (plD K i).2 = false) : Calls Tryz.prog 23 #[.pointer (some ⟨rb, 0, none⟩), .agg #[.int .i64 i.d, .int .i64 i.o, .int .i64 i.k, .int .i64 i.n]] w fun e w' => e = .returned (.bool false) ∧ RefD w0 w' rb room K ∧ KeepR w w' := by
  obtain ⟨w1, hw1⟩ : ∃ w1, w.alloc (.cells #[.int .i64 i.d, .int .i64 i.o, .int .i64 i.k, .int .i64 i.n] 33) = w1 := ⟨_, rfl⟩
  have b1 : Below w.heap.size w w1 := by rw [← hw1]; exact (Below.refl _ w).alloc (Nat.le_refl _) _
  have A1 : Arr w1 w.heap.size 33 [.int .i64 i.d, .int .i64 i.o, .int .i64 i.k, .int .i64 i.n] := by rw [← hw1]; exact Arr.new w _ _
  have HR1 := Lib.hid (h.below b1)
  have HB1 := Lib.hid b1
  obtain ⟨k, hk⟩ : ∃ k, (plD K i).1 = k := ⟨_, rfl⟩
  have a0 : w1.cell? ⟨w.heap.size, 0, none⟩ = some (.int .i64 i.d) := A1.cell 0
  have a1 : w1.cell? ⟨w.heap.size, 1, none⟩ = some (.int .i64 i.o) := A1.cell 1
  have a2 : w1.cell? ⟨w.heap.size, 2, none⟩ = some (.int .i64 i.k) := A1.cell 2
  have a3 : w1.cell? ⟨w.heap.size, 3, none⟩ = some (.int .i64 i.n) := A1.cell 3
  have HPL : Hid (Calls Tryz.prog 40 #[.pointer (some ⟨rb, 0, none⟩), .agg #[.int .i64 i.d, .int .i64 i.o, .int .i64 i.k, .int .i64 i.n]] w1 fun e w' => e = .returned (.tuple #[.int .i64 k, .bool false]) ∧ Below w1.heap.size w1 w') := by
    have := rplace_any HR1.out i
    rwa [hk, hpb] at this
  clear h hk A1 hpb b1
  go_enter Tryz.func23, Tryz.ntmps23
  go_wp2_with (first
    | (go_at_call 40; refine HPL.out.mono ?_; rintro e w2 ⟨rfl, hb⟩; have HR2 := Lib.hid (HR1.out.below hb); have HB2 := Lib.hid (HB1.out.trans (hb.mono HB1.out.size)); clear hb))
  go_ret
  exact ⟨rfl, HR2.out, KeepR.of_below HB2.out⟩
theorem slice_tailN (g len c kk : Nat) (hk : kk ≤ len) (hc : len ≤ c) : ∃ ad : Addr, (∀ W : World, (Instr.slice 62 (.slice (some ⟨g, 0, none⟩) len c) (some (.int .i64 (kk : Nat))) none none).run Tryz.prog W = .ok (.slice (some ad) (len - kk) (c - kk)) W) ∧ ((c = kk ∧ ad = ⟨g, 0, none⟩) ∨ (c ≠ kk ∧ ad = ⟨g, kk * 11, none⟩)) := by
  by_cases hck : c = kk
  · refine ⟨⟨g, 0, none⟩, fun W => ?_, .inl ⟨hck, rfl⟩⟩
    have h2 : len = kk := by omega
    subst hck h2
    go_simp
  · refine ⟨⟨g, kk * 11, none⟩, fun W => ?_, .inr ⟨hck, rfl⟩⟩
    go_simp
theorem KindE.step_append {E' : Type} {sl T : TypeId} {sz bytes : Nat} {z : Value} {enc : E' → List Value} (K : KindE sl T sz bytes z enc) {w : World} {ops : Array Oper} {o : Oper} {a : Act} {K' : Act → World → Prop} {Q : Exit → Act → World → Prop} {E : Prop} (hgd : o.guard = Option.none) (s x : Operand)
    (ho : o.op = .call { callee := .builtin .append, args := #[s, x], argTypes := #[sl, sl] }) (base : Nat) (v : Value) (l : List E') (hs : a.eval s = v) (hown : OwnE T sz enc w base v l)
    (A : Option Addr) (m : List E') (n c : Nat) (hx : a.eval x = .slice A n c) (hn : n = m.length) (hr : RdE sz enc w A m) (h63 : l.length + m.length ≤ maxLen) (hby : (l.length + m.length) * bytes ≤ 140737488355328) (hbase : base ≤ w.heap.size)
    (h : ∀ A' n' c' w', n' = (l ++ m).length → OwnE T sz enc w' base (.slice A' n' c') (l ++ m) → Below base w w' → w.grownBy w' v.ownBlock → K' (a.put o.dst (.slice A' n' c')) w') : if Region.wanted o (yielded ops a.tmps) = true then Oper.wp Tryz.prog o a w K' Q else E := by
  have hw : Region.wanted o (yielded ops a.tmps) = true := by simp [Region.wanted, hgd]
  rw [if_pos hw]
  subst hn
  obtain ⟨v', w', hrun, h1, h2, h3⟩ := K.append w o.type hown c hr h63 hby hbase
  obtain ⟨A', c', e, _⟩ := h1.shape
  subst e
  unfold Oper.wp
  simp only [execOp, ho, resolve, invoke, builtin, hs, hx, List.size_toArray, List.map_toArray, List.map_cons, List.map_nil, Result.andThen]
  simp [hs, hx, hrun, Result.andThen]
  rw [← List.length_append]
  exact h A' _ c' w' rfl h1 h2 h3
set_option maxHeartbeats 3200000 in
set_option maxRecDepth 100000 in
theorem rdrop_is {w0 w : World} {rb : Nat} {room : Int} {K : List EnT} (h : RefD w0 w rb room K) (hlen : K.length ≤ 4096) (i : TId) (hpb : (plD K i).2 = true) {y : EnT} (hy : K[(plD K i).1]? = some y) : Calls Tryz.prog 23 #[.pointer (some ⟨rb, 0, none⟩), .agg #[.int .i64 i.d, .int .i64 i.o, .int .i64 i.k, .int .i64 i.n]] w fun e w' => e = .returned (.bool true) ∧ RefD w0 w' rb room (restD K i) ∧ KeepR w w' := by
  obtain ⟨w1, hw1⟩ : ∃ w1, w.alloc (.cells #[.int .i64 i.d, .int .i64 i.o, .int .i64 i.k, .int .i64 i.n] 33) = w1 := ⟨_, rfl⟩
  have b1 : Below w.heap.size w w1 := by rw [← hw1]; exact (Below.refl _ w).alloc (Nat.le_refl _) _
  have A1 : Arr w1 w.heap.size 33 [.int .i64 i.d, .int .i64 i.o, .int .i64 i.k, .int .i64 i.n] := by rw [← hw1]; exact Arr.new w _ _
  have hr1 := h.below b1
  have HR1 := Lib.hid hr1
  have HB1 := Lib.hid b1
  obtain ⟨k, hk⟩ : ∃ k, (plD K i).1 = k := ⟨_, rfl⟩
  have a0 : w1.cell? ⟨w.heap.size, 0, none⟩ = some (.int .i64 i.d) := A1.cell 0
  have a1 : w1.cell? ⟨w.heap.size, 1, none⟩ = some (.int .i64 i.o) := A1.cell 1
  have a2 : w1.cell? ⟨w.heap.size, 2, none⟩ = some (.int .i64 i.k) := A1.cell 2
  have a3 : w1.cell? ⟨w.heap.size, 3, none⟩ = some (.int .i64 i.n) := A1.cell 3
  have HPL : Hid (Calls Tryz.prog 40 #[.pointer (some ⟨rb, 0, none⟩), .agg #[.int .i64 i.d, .int .i64 i.o, .int .i64 i.k, .int .i64 i.n]] w1 fun e w' => e = .returned (.tuple #[.int .i64 k, .bool true]) ∧ Below w1.heap.size w1 w') := by
    have := rplace_any HR1.out i
    rwa [hk, hpb] at this
  have HRE : Hid (restD K i = K.take k ++ K.drop (k + 1)) := pl_rest h.inv.asc (Prod.ext hk hpb)
  have HINV := Lib.hid (h.inv.drop i)
  obtain ⟨v, L, hbs, how, hLK, hrd⟩ := hr1.has
  obtain ⟨a, c, rfl, hlc, hcm⟩ := how.shape
  have hform := how.form
  obtain ⟨n, hn⟩ : ∃ n, L.length = n := ⟨_, rfl⟩
  have HN := Lib.hid hn
  have hkn : k < n := by
    rw [hk] at hy
    have := (List.getElem?_eq_some_iff.1 hy).1
    rw [← hLK, List.length_map] at this
    omega
  have hnl : n ≤ 4096 := by rw [← hn, ← List.length_map (f := EnK.e), hLK]; exact hlen
  obtain ⟨x, hx⟩ : ∃ x, L[k]? = some x := ⟨_, List.getElem?_eq_getElem (by omega)⟩
  obtain ⟨g, rfl⟩ : ∃ g, a = some ⟨g, 0, none⟩ := by
    rcases hform with ⟨_, e⟩ | ⟨g, cap, e, _⟩
    · rw [e] at hx; simp at hx
    · injection e with e1; exact ⟨g, e1⟩
  have HRW := Lib.hid (kindN.rd how)
  have hrbl : rb < w1.heap.size := (Array.getElem?_eq_some_iff.1 hbs).1
  have c1 : w1.cell? ⟨rb, 1, none⟩ = some (.slice (some ⟨g, 0, none⟩) n c) := by rw [← hn]; simp [World.cell?, hbs]
  have HC1 := Lib.hid c1
  have hnc : n ≤ c := by omega
  have hkc : k ≤ c := by omega
  have HLK := Lib.hid hLK
  have HRD := Lib.hid hrd
  have hcl : c ≤ 9223372036854775807 := by have h1 : maxLen ≤ 9223372036854775807 := by decide
                                           omega
  clear h hk A1 hpb b1 hr1 hbs how hLK hrd hlc hcm hn hy hx hlen c1 hform
  go_enter Tryz.func23, Tryz.ntmps23
  go_wp2_with (first
    | (go_at_call 40; refine HPL.out.mono ?_; rintro e w2 ⟨rfl, hb⟩; have HR2 := Lib.hid (HR1.out.below hb); have HB2 := Lib.hid (HB1.out.trans (hb.mono HB1.out.size)); have HRW2 := Lib.hid (HRW.out.below hb); have q1 := (hb.cell (p := ⟨rb, 1, none⟩) hrbl).trans HC1.out; have hrb2 := Nat.lt_of_lt_of_le hrbl hb.size; clear hb))
  have hbe : Below w2.heap.size w2 (w2.alloc (.cells #[] 75)).drew := ((Below.refl _ _).alloc (Nat.le_refl _) _).drew
  have q2 : (w2.alloc (.cells #[] 75)).drew.cell? ⟨rb, 1, none⟩ = some (.slice (some ⟨g, 0, none⟩) n c) := (hbe.cell (p := ⟨rb, 1, none⟩) hrb2).trans q1
  have q3 : w2.drew.cell? ⟨rb, 1, none⟩ = some (.slice (some ⟨g, 0, none⟩) n c) := q1
  have HE : Hid (OwnE 75 11 cellsK (w2.alloc (.cells #[] 75)).drew w2.heap.size (.slice (some ⟨w2.heap.size, 0, none⟩) 0 0) []) := kindN.own0 w2
  have HBE := Lib.hid hbe
  have hb0 := fun W => kindN.build0 W
  have hk0 : (0 : Int) ≤ k := by omega
  have ek : IntKind.i64.wrap ((k : Int) + 1) = (k : Int) + 1 := IntWalk.i64_in _ (by omega)
  clear hbe
  obtain ⟨ad, hsl, hpart⟩ : ∃ ad : Addr, (∀ W : World, (Instr.slice 62 (.slice (some ⟨g, 0, none⟩) n c) (some (.int .i64 ((k : Int) + 1))) none none).run Tryz.prog W = .ok (.slice (some ad) (n - (k + 1)) (c - (k + 1))) W) ∧ ∀ W, RdE 11 cellsK W (some ⟨g, 0, none⟩) L → RdE 11 cellsK W (some ad) (L.drop (k + 1)) := by
    obtain ⟨ad, hrun, hcs⟩ := slice_tailN g n c (k + 1) (by omega) hnc
    refine ⟨ad, fun W => ?_, fun W hW => ?_⟩
    · have h := hrun W
      rw [show ((k + 1 : Nat) : Int) = (k : Int) + 1 by omega] at h
      exact h
    · rcases hcs with ⟨h1, rfl⟩ | ⟨h1, rfl⟩
      · have : L.drop (k + 1) = [] := List.drop_eq_nil_of_le (by rw [HN.out]; omega)
        rw [this]
        exact RdE.nil _ _
      · have := hW.drop (k + 1)
        rwa [Nat.zero_add] at this
  have HPT := Lib.hid hpart
  have HTK : Hid ((L.take k).length = k) := by unfold Hid; rw [List.length_take, HN.out]; omega
  have HDL : Hid ((L.drop (k + 1)).length = n - (k + 1)) := by unfold Hid; rw [List.length_drop, HN.out]
  clear hpart
  go_region_law (first
    | (refine kindN.step_append rfl (.tmp 15) (.tmp 21) rfl w2.heap.size _ [] rfl HE.out (some ⟨g, 0, none⟩) (L.take k) k c rfl HTK.out.symm ((HRW2.out.below HBE.out).take k) (by rw [HTK.out]; unfold maxLen; simp; omega) (by rw [HTK.out]; simp; omega) (by simp) ?_; intro A4 n4 c4 w4 hn4 HO4 hb4 hg4; have e4 : k = n4 := (hn4.trans HTK.out).symm; subst e4; have hb44 := HBE.out.trans (hb4.mono (Nat.le_refl _)); have HB4 := Lib.hid hb44; have HOW4 := Lib.hid HO4; have q4 : w4.cell? ⟨rb, 1, none⟩ = some (.slice (some ⟨g, 0, none⟩) n c) := (hb44.cell (p := ⟨rb, 1, none⟩) hrb2).trans q1; clear hn4 HO4 hb4 hg4 hb44)
    | (refine kindN.step_append rfl (.tmp 22) (.tmp 29) rfl w2.heap.size _ _ rfl HOW4.out (some ad) (L.drop (k + 1)) (n - (k + 1)) (c - (k + 1)) rfl HDL.out.symm (HPT.out _ (HRW2.out.below HB4.out)) (by rw [HDL.out, List.nil_append, HTK.out]; unfold maxLen; omega) (by rw [HDL.out, List.nil_append, HTK.out]; omega) HB4.out.size ?_; intro A5 n5 c5 w5 hn5 HO5 hb5 hg5; have hb55 := HB4.out.trans (hb5.mono (Nat.le_refl _)); have HB5 := Lib.hid hb55; have HOW5 := Lib.hid HO5; have q5 : w5.cell? ⟨rb, 1, none⟩ = some (.slice (some ⟨g, 0, none⟩) n c) := (hb55.cell (p := ⟨rb, 1, none⟩) hrb2).trans q1; have HR5 := Lib.hid (HR2.out.below hb55); obtain ⟨v5, L5, hbs5, _⟩ := HR5.out.has; have f5 : w5.frozen? ⟨rb, 1, none⟩ = false := (by simp [World.frozen?, hbs5]); have HBS5 := Lib.hid hbs5; clear hbs5 hn5 HO5 hb5 hg5 hb55)
    )
  all_goals go_wp2
  all_goals go_ret
  all_goals refine ⟨rfl, ?_, (KeepR.of_below (HB2.out.trans (HB5.out.mono HB2.out.size))).trans (KeepR.base HBS5.out _ _)⟩
  all_goals refine HR5.out.turn (HOW5.out.mono HR2.out.bel.size) (fun e => ?_) ?_ (fun z hz => ?_) HINV.out
  all_goals first
    | (have h1 := (World.ownsRow.lt HOW5.out rb e).1; omega)
    | (rw [List.nil_append, List.map_append, List.map_take, List.map_drop, HLK.out]; exact HRE.out.symm)
    | (rw [List.nil_append] at hz; rcases List.mem_append.1 hz with q | q <;> first | exact HRD.out z (List.mem_of_mem_take q) | exact HRD.out z (List.mem_of_mem_drop q))
theorem rdrop_any {w0 w : World} {rb : Nat} {room : Int} {K : List EnT} (h : RefD w0 w rb room K) (hlen : K.length ≤ 4096) (i : TId) : Calls Tryz.prog 23 #[.pointer (some ⟨rb, 0, none⟩), .agg #[.int .i64 i.d, .int .i64 i.o, .int .i64 i.k, .int .i64 i.n]] w fun e w' => e = .returned (.bool (findD K i).isSome) ∧ RefD w0 w' rb room (restD K i) ∧ KeepR w w' := by
  obtain ⟨h1, h2⟩ := plD_find h.inv.asc i
  cases hf : findD K i with
  | none =>
    have := rdrop_none h i (by rw [h1, hf]; rfl)
    rw [restD_none hf]
    exact this
  | some y => exact rdrop_is h hlen i (by rw [h1, hf]; rfl) (h2 y hf)
end Go.Proofs.YtpaooddmgcekhaaGreat.ti

/-
  THE DOCUMENT's tests of numbers (selvageref03): within, rightId, RightHead, rightLie, rightEdge, zeroTie, RightPrefix.
-/
namespace Go.Proofs.YtpaooddmgcekhaaGreat
open Go.RowKit Go.Shelf
set_option linter.unusedVariables false

theorem rwithin_any (n lo hi : Int) (w : World) : Calls Tryz.prog 56 #[.int .i64 n, .int .i64 lo, .int .i64 hi] w fun e w' => e = .returned (.bool (rgB lo hi n)) ∧ w = w' := by
  go_enter Tryz.func56, Tryz.ntmps56
  go_wp2
  all_goals go_ret
  all_goals exact ⟨ret_bool (by unfold rgB; first | (simp [*]; done) | (simp; omega)), rfl⟩

set_option maxRecDepth 100000 in
set_option maxHeartbeats 8000000 in
theorem rrightId_any (x : IdT) (w : World) : Calls Tryz.prog 71 #[.agg #[.int .i64 x.dir, .int .i64 x.orig, .int .i64 x.kind, .int .i64 x.nr]] w fun e w' => e = .returned (.bool (idR x)) ∧ Below w.heap.size w w' := by
  go_enter Tryz.func71, Tryz.ntmps71
  go_wp2_with (first
    | (go_at_call 56; refine (rwithin_any _ _ _ _).mono ?_; rintro e w' ⟨rfl, rfl⟩))
  all_goals go_ret
  all_goals exact ⟨ret_bool (by simp [idR, *]), (Below.refl _ _).alloc (Nat.le_refl _) _⟩

set_option maxRecDepth 100000 in
set_option maxHeartbeats 8000000 in
theorem rrightEdge_any (x : EdgeT) (w : World) : Calls Tryz.prog 54 #[.agg #[.int .i64 x.node, .int .i64 x.level, .int .i64 x.cost]] w fun e w' => e = .returned (.bool (edgeR x)) ∧ Below w.heap.size w w' := by
  go_enter Tryz.func54, Tryz.ntmps54
  go_wp2_with (first
    | (go_at_call 56; refine (rwithin_any _ _ _ _).mono ?_; rintro e w' ⟨rfl, rfl⟩))
  all_goals go_ret
  all_goals exact ⟨ret_bool (by simp [edgeR, *]), (Below.refl _ _).alloc (Nat.le_refl _) _⟩

set_option maxRecDepth 100000 in
set_option maxHeartbeats 8000000 in
theorem rRightHead_any (x : HeadT) (w : World) : Calls Tryz.prog 53 #[.agg #[.int .i64 x.id.dir, .int .i64 x.id.orig, .int .i64 x.id.kind, .int .i64 x.id.nr, .int .i64 x.seq, .int .i64 x.life]] w fun e w' => e = .returned (.bool (headR x)) ∧ Below w.heap.size w w' := by
  have A0 := Lib.hid (At.new w.heap.size w (Nat.le_refl _) [.int .i64 x.id.dir, .int .i64 x.id.orig, .int .i64 x.id.kind, .int .i64 x.id.nr, .int .i64 x.seq, .int .i64 x.life] 35 rfl)
  have HB := Lib.hid ((Below.refl w.heap.size w).alloc (Nat.le_refl _) (.cells #[.int .i64 x.id.dir, .int .i64 x.id.orig, .int .i64 x.id.kind, .int .i64 x.id.nr, .int .i64 x.seq, .int .i64 x.life] 35))
  go_enter Tryz.func53, Tryz.ntmps53
  go_wp2_with (first
    | (go_at_call 71; refine (rrightId_any x.id _).mono ?_; rintro e w1 ⟨rfl, hb⟩; have d4 : w1.cell? ⟨w.heap.size, 4, none⟩ = some _ := (hb.cell (p := ⟨w.heap.size, 4, none⟩) (by simp)).trans (A0.out.cellZ 4 rfl); have d5 : w1.cell? ⟨w.heap.size, 5, none⟩ = some _ := (hb.cell (p := ⟨w.heap.size, 5, none⟩) (by simp)).trans (A0.out.cellZ 5 rfl); have HB1 := Lib.hid (HB.out.trans (hb.mono (by simp))); clear hb)
    | (go_at_call 56; refine (rwithin_any _ _ _ _).mono ?_; rintro e w' ⟨rfl, rfl⟩))
  all_goals go_ret
  all_goals exact ⟨ret_bool (by simp [headR, *]), HB1.out⟩

theorem pow_pos (k : Nat) : (0 : Int) < 2 ^ k := Int.pow_pos (by decide)
/-- No bits are set behind those that count, just where the rest is nought. -/
theorem shl_rem {net : Int} {k : Nat} (h0 : 0 ≤ net) (h1 : net < 4294967296) (hk : k ≤ 32) : shlB net k = decide (net % 2 ^ (32 - k) = 0) := by
  have e1 : ((k : Int) % 18446744073709551616).toNat = k := by omega
  have e2 : (4294967296 : Int) = 2 ^ (32 - k) * 2 ^ k := by
    rw [← Int.pow_add, show 32 - k + k = 32 by omega]
    rfl
  unfold shlB
  rw [e1, Nat.min_eq_left hk, e2, Int.mul_comm net, Int.mul_comm (2 ^ (32 - k)) (2 ^ k), Int.mul_emod_mul_of_pos _ _ (pow_pos k)]
  have hp := pow_pos k
  rw [Bool.eq_iff_iff]
  simp only [beq_iff_eq, decide_eq_true_eq]
  constructor
  · intro h
    rcases Int.mul_eq_zero.1 h with h | h
    · omega
    · exact h
  · intro h
    rw [h]
    simp
set_option maxRecDepth 100000 in
set_option maxHeartbeats 4000000 in
theorem rRightPrefix_any (net bits : Int) (h0 : 0 ≤ net) (h1 : net < 4294967296) (W : World) :
    Calls Tryz.prog 55 #[.agg #[.int .u32 net, .int .i64 bits]] W fun e w' => e = .returned (.bool (rgB 0 32 bits && shlB net bits)) ∧ Below W.heap.size W w' := by
  by_cases hb : 0 ≤ bits ∧ bits ≤ 32
  rotate_left
  · have HB := Lib.hid hb
    have hr : rgB 0 32 bits = false := by unfold rgB; exact decide_eq_false hb
    have HR := Lib.hid hr
    have hc : bits < 0 ∨ 32 < bits := by omega
    clear hb hr
    rcases hc with hc | hc
    all_goals
      go_enter Tryz.func55, Tryz.ntmps55
      go_wp2
    all_goals go_ret
    all_goals exact ⟨ret_bool (by rw [HR.out]; rfl), (Below.refl _ _).alloc (Nat.le_refl _) _⟩
  · obtain ⟨k, rfl⟩ : ∃ k : Nat, bits = k := ⟨bits.toNat, by omega⟩
    have hk : k ≤ 32 := by omega
    have hr : rgB 0 32 (k : Int) = true := by unfold rgB; exact decide_eq_true hb
    have HR := Lib.hid hr
    have HS := Lib.hid (shl_rem h0 h1 hk)
    clear hb hr
    have k0 : (0 : Int) ≤ (k : Int) := Int.natCast_nonneg _
    have k1 : (k : Int) ≤ 32 := by omega
    go_enter Tryz.func55, Tryz.ntmps55
    go_wp2
    go_loop [4, 5] (fun z i => ∃ (j : Nat) (u : Int), k ≤ j ∧ j ≤ 32 ∧ z = .int .i64 u ∧ i = .int .i64 j ∧ RowKit.Hid (u = 2 ^ (j - k)) ∧ 0 < u ∧ u ≤ 4294967296) (fun _ i => 32 - (intOf i).toNat)
    case atStart => exact ⟨k, 1, Nat.le_refl _, hk, rfl, rfl, Lib.hid (by simp), by omega, by omega⟩
    case round =>
      obtain ⟨j, u, hj, hj2, rfl, rfl, hu, hu0, hu1⟩ := hrel
      by_cases hlt : j < 32
      · have hu2 : u * 2 ≤ 4294967296 := by
          rw [hu.out, ← Int.pow_succ]
          calc (2 : Int) ^ (j - k + 1) ≤ 2 ^ 32 := by
                have : (2 : Nat) ^ (j - k + 1) ≤ 2 ^ 32 := Nat.pow_le_pow_right (by decide) (by omega)
                exact_mod_cast this
            _ = 4294967296 := by rfl
        have j0 : (j : Int) < 32 := by omega
        have hnx : RowKit.Hid (u * 2 = 2 ^ (j + 1 - k)) := by
          have h := hu.out
          show u * 2 = 2 ^ (j + 1 - k)
          rw [h, show j + 1 - k = (j - k) + 1 by omega, Int.pow_succ]
        go_wp2
        go_round
        case rel => exact ⟨j + 1, u * 2, by omega, by omega, by go_num, by go_num, hnx, by omega, hu2⟩
        case measure => simp [intOf]; omega
      · obtain rfl : j = 32 := by omega
        have hne : ¬ u = 0 := by omega
        go_wp2
        go_ret
        exact ⟨ret_bool (by rw [HR.out, HS.out, hu.out]; rfl), (Below.refl _ _).alloc (Nat.le_refl _) _⟩
end Go.Proofs.YtpaooddmgcekhaaGreat

/-
  THE DOCUMENT's RightTie.
-/
namespace Go.Proofs.YtpaooddmgcekhaaGreat
open Go.RowKit Go.Shelf
set_option linter.unusedVariables false

theorem all_next {E : Type} {f : E → Bool} {l : List E} {k : Nat} {x : E} (h : (l.take k).all f = true) (hx : l[k]? = some x) (hf : f x = true) : (l.take (k + 1)).all f = true := by
  rw [List.take_add_one, hx]
  simp only [List.all_append, h, Option.toList, List.all_cons, hf, List.all_nil, Bool.and_self]
theorem all_not {E : Type} {f : E → Bool} {l : List E} {k : Nat} {x : E} (hx : l[k]? = some x) (hf : f x = false) : l.all f = false := by
  rw [Bool.eq_false_iff]
  intro h
  have := List.all_eq_true.1 h x (List.mem_of_getElem? hx)
  rw [hf] at this
  cases this
theorem tie_bad1 {x : TieT} (h : headR x.head = false) : tieR x = false := by simp [tieR, h]
theorem tie_bad2 {x : TieT} (h : 64 < x.edges.length) : tieR x = false := by
  have : decide (x.edges.length ≤ if x.head.id.kind = 1 then 64 else 0) = false := decide_eq_false (by split <;> omega)
  simp only [tieR, this, Bool.and_false, Bool.false_and]
theorem tie_bad3 {x : TieT} (h : 64 < x.reaches.length) : tieR x = false := by
  have : decide (x.reaches.length ≤ if x.head.id.kind = 1 then 0 else 64) = false := decide_eq_false (by split <;> omega)
  simp only [tieR, this, Bool.and_false]
theorem tie_bad4 {x : TieT} (h : x.edges.all edgeR = false) : tieR x = false := by simp only [tieR, h, Bool.and_false, Bool.false_and]
theorem tie_bad5 {x : TieT} (h : x.reaches.all reachR = false) : tieR x = false := by simp only [tieR, h, Bool.and_false, Bool.false_and]
theorem int_beq0 (n : Nat) : ((n : Int) == 0) = decide (n = 0) := by
  rw [Bool.eq_iff_iff]
  simp
theorem reach_yes {u : ReachT} (h : 0 ≤ u.net ∧ u.net < 4294967296) (h1 : (rgB 0 32 u.bits && shlB u.net u.bits) = true) (h2 : rgB 0 1048576 u.metric = true) : reachR u = true := by
  have h3 : rgB 0 4294967295 u.net = true := by unfold rgB; exact decide_eq_true (by omega)
  rw [Bool.and_eq_true] at h1
  simp [reachR, h1.1, h1.2, h2, h3]
theorem reach_no {u : ReachT} (h1 : (rgB 0 32 u.bits && shlB u.net u.bits) = false) : reachR u = false := by
  unfold reachR
  rw [Bool.and_assoc (rgB 0 4294967295 u.net), h1]
  simp
theorem tie_end {x : TieT} (h1 : headR x.head = true) (h2 : x.edges.length ≤ 64) (h3 : x.reaches.length ≤ 64) (h4 : x.edges.all edgeR = true) (h5 : x.reaches.all reachR = true) :
    tieR x = if x.head.id.kind = 1 then rgB 0 24 x.level && decide (x.reaches.length = 0) else decide (x.level = 0) && !x.over && decide (x.edges.length = 0) := by
  simp only [tieR, h1, h4, h5, Bool.true_and]
  by_cases hk : x.head.id.kind = 1
  · simp only [if_pos hk, bit_range, Bool.true_and]
    rw [show decide (x.edges.length ≤ 64) = true from decide_eq_true h2, Bool.true_and]
    congr 1
    rw [Bool.eq_iff_iff]
    simp
  · simp only [if_neg hk]
    rw [show decide (x.reaches.length ≤ 64) = true from decide_eq_true h3]
    have e1 : rgB 0 0 x.level = decide (x.level = 0) := by unfold rgB; rw [Bool.eq_iff_iff]; simp; omega
    have e2 : rgB 0 0 (bitI x.over) = !x.over := by cases x.over <;> rfl
    rw [e1, e2, Bool.and_true, ← Bool.and_assoc]
    congr 1
    rw [Bool.eq_iff_iff]
    simp

set_option maxRecDepth 100000 in
set_option maxHeartbeats 16000000 in
theorem rRightTie_any (x : TieT) (ae ar : Option Addr) (ce cr : Nat) (hx1 : x.edges.length ≤ 140737488351232) (hx2 : x.reaches.length ≤ 140737488351232) (hok : ∀ y ∈ x.reaches, 0 ≤ y.net ∧ y.net < 4294967296) (W : World) (r1 : RdR 3 encEdge W.heap.size W ae x.edges) (r2 : RdR 3 encReach W.heap.size W ar x.reaches) :
    Calls Tryz.prog 39 #[.agg #[.int .i64 x.head.id.dir, .int .i64 x.head.id.orig, .int .i64 x.head.id.kind, .int .i64 x.head.id.nr, .int .i64 x.head.seq, .int .i64 x.head.life, .int .i64 x.level, .bool x.over, .slice ae x.edges.length ce, .slice ar x.reaches.length cr]] W fun e w' => e = .returned (.bool (tieR x)) ∧ Below W.heap.size W w' := by
  obtain ⟨n1, hn1⟩ : ∃ n, x.edges.length = n := ⟨_, rfl⟩
  obtain ⟨n2, hn2⟩ : ∃ n, x.reaches.length = n := ⟨_, rfl⟩
  rw [hn1, hn2]
  rw [hn1] at hx1
  rw [hn2] at hx2
  have HN1 := Lib.hid hn1
  have HN2 := Lib.hid hn2
  have RE := Lib.hid r1
  have RR := Lib.hid r2
  have HOK := Lib.hid hok
  have A0 := Lib.hid (At.new W.heap.size W (Nat.le_refl _) [.int .i64 x.head.id.dir, .int .i64 x.head.id.orig, .int .i64 x.head.id.kind, .int .i64 x.head.id.nr, .int .i64 x.head.seq, .int .i64 x.head.life, .int .i64 x.level, .bool x.over, .slice ae n1 ce, .slice ar n2 cr] 39 rfl)
  have HB := Lib.hid ((Below.refl W.heap.size W).alloc (Nat.le_refl _) (.cells #[.int .i64 x.head.id.dir, .int .i64 x.head.id.orig, .int .i64 x.head.id.kind, .int .i64 x.head.id.nr, .int .i64 x.head.seq, .int .i64 x.head.life, .int .i64 x.level, .bool x.over, .slice ae n1 ce, .slice ar n2 cr] 39))
  clear hn1 hn2 r1 r2 hok
  by_cases h1 : headR x.head = true
  rotate_left
  · have h1' : headR x.head = false := by simpa using h1
    have H1 := Lib.hid h1'
    clear h1 h1'
    go_enter Tryz.func39, Tryz.ntmps39
    go_wp2_with (first
      | (go_at_call 53; refine (rRightHead_any x.head _).mono ?_; rintro e w1 ⟨rfl, hb⟩; rw [H1.out]; have B1 := Lib.hid hb; have d8 : w1.cell? ⟨W.heap.size, 8, none⟩ = some _ := (hb.cell (p := ⟨W.heap.size, 8, none⟩) (by simp)).trans (A0.out.cellZ 8 rfl); have d9 : w1.cell? ⟨W.heap.size, 9, none⟩ = some _ := (hb.cell (p := ⟨W.heap.size, 9, none⟩) (by simp)).trans (A0.out.cellZ 9 rfl); clear hb))
    go_ret
    exact ⟨ret_bool (tie_bad1 H1.out).symm, HB.out.trans (B1.out.mono (by simp))⟩
  have H1 := Lib.hid h1
  clear h1
  by_cases hc : 64 < n1 ∨ 64 < n2
  · have HBAD : RowKit.Hid (tieR x = false) := by
      have e1 := HN1.out
      have e2 := HN2.out
      rcases hc with hc | hc
      · exact tie_bad2 (by omega)
      · exact tie_bad3 (by omega)
    by_cases hc1 : 64 < n1
    · clear hc
      go_enter Tryz.func39, Tryz.ntmps39
      go_wp2_with (first
        | (go_at_call 53; refine (rRightHead_any x.head _).mono ?_; rintro e w1 ⟨rfl, hb⟩; rw [H1.out]; have B1 := Lib.hid hb; have d8 : w1.cell? ⟨W.heap.size, 8, none⟩ = some _ := (hb.cell (p := ⟨W.heap.size, 8, none⟩) (by simp)).trans (A0.out.cellZ 8 rfl); have d9 : w1.cell? ⟨W.heap.size, 9, none⟩ = some _ := (hb.cell (p := ⟨W.heap.size, 9, none⟩) (by simp)).trans (A0.out.cellZ 9 rfl); clear hb))
      go_ret
      exact ⟨ret_bool HBAD.out.symm, HB.out.trans (B1.out.mono (by simp))⟩
    · have hc2 : 64 < n2 := by omega
      clear hc
      go_enter Tryz.func39, Tryz.ntmps39
      go_wp2_with (first
        | (go_at_call 53; refine (rRightHead_any x.head _).mono ?_; rintro e w1 ⟨rfl, hb⟩; rw [H1.out]; have B1 := Lib.hid hb; have d8 : w1.cell? ⟨W.heap.size, 8, none⟩ = some _ := (hb.cell (p := ⟨W.heap.size, 8, none⟩) (by simp)).trans (A0.out.cellZ 8 rfl); have d9 : w1.cell? ⟨W.heap.size, 9, none⟩ = some _ := (hb.cell (p := ⟨W.heap.size, 9, none⟩) (by simp)).trans (A0.out.cellZ 9 rfl); clear hb))
      go_ret
      exact ⟨ret_bool HBAD.out.symm, HB.out.trans (B1.out.mono (by simp))⟩
  have c1 : n1 ≤ 64 := by omega
  have c2 : n2 ≤ 64 := by omega
  clear hc
  go_enter Tryz.func39, Tryz.ntmps39
  go_wp2_with (first
    | (go_at_call 53; refine (rRightHead_any x.head _).mono ?_; rintro e w1 ⟨rfl, hb⟩; rw [H1.out]; have B1 := Lib.hid hb; have d8 : w1.cell? ⟨W.heap.size, 8, none⟩ = some _ := (hb.cell (p := ⟨W.heap.size, 8, none⟩) (by simp)).trans (A0.out.cellZ 8 rfl); have d9 : w1.cell? ⟨W.heap.size, 9, none⟩ = some _ := (hb.cell (p := ⟨W.heap.size, 9, none⟩) (by simp)).trans (A0.out.cellZ 9 rfl); clear hb))
  go_loopw [3] (fun i wr => ∃ k : Nat, k ≤ n1 ∧ i = .int .i64 k ∧ (x.edges.take k).all edgeR = true ∧ Below (W.heap.size + 1) (W.alloc (.cells #[.int .i64 x.head.id.dir, .int .i64 x.head.id.orig, .int .i64 x.head.id.kind, .int .i64 x.head.id.nr, .int .i64 x.head.seq, .int .i64 x.head.life, .int .i64 x.level, .bool x.over, .slice ae n1 ce, .slice ar n2 cr] 39)) wr) (fun i _ => n1 - (intOf i).toNat)
  case atStart => exact ⟨0, Nat.zero_le _, rfl, rfl, B1.out.mono (by simp)⟩
  case round =>
    obtain ⟨k, hk, rfl, hpre, hbel⟩ := hrel
    have HP := Lib.hid hpre
    have HBL := Lib.hid hbel
    have q8 : wr.cell? ⟨W.heap.size, 8, none⟩ = some (.slice ae n1 ce) := (hbel.cell (p := ⟨W.heap.size, 8, none⟩) (Nat.lt_succ_self _)).trans (A0.out.cellZ 8 rfl)
    clear hpre hbel
    by_cases hlt : k < n1
    · obtain ⟨b1, o1, rfl, hb1, hca⟩ := RE.out (by have := HN1.out; omega)
      obtain ⟨u, hu⟩ : ∃ u, x.edges[k]? = some u := ⟨_, List.getElem?_eq_getElem (by have := HN1.out; omega)⟩
      have g0 : wr.cell? ⟨b1, o1 + k * 3, none⟩ = some _ := (HBL.out.cell (by show b1 < W.heap.size + 1; omega)).trans ((HB.out.cell hb1).trans (hca k u hu 0 _ rfl))
      have g1 : wr.cell? ⟨b1, o1 + k * 3 + 1, none⟩ = some _ := (HBL.out.cell (by show b1 < W.heap.size + 1; omega)).trans ((HB.out.cell hb1).trans (hca k u hu 1 _ rfl))
      have g2 : wr.cell? ⟨b1, o1 + k * 3 + 2, none⟩ = some _ := (HBL.out.cell (by show b1 < W.heap.size + 1; omega)).trans ((HB.out.cell hb1).trans (hca k u hu 2 _ rfl))
      have HX := Lib.hid hu
      have k0 : (0 : Int) ≤ (k : Int) := Int.natCast_nonneg _
      have k1 : (k : Int) < (n1 : Int) := by omega
      clear hca hu
      by_cases he : edgeR u = true
      · have HE := Lib.hid he
        have HS := Lib.hid (all_next HP.out HX.out he)
        clear hlt he
        go_wp2_with (first
          | (go_at_call 54; refine (rrightEdge_any u _).mono ?_; rintro e w3 ⟨rfl, hb⟩; rw [HE.out]; have HB3 := Lib.hid (HBL.out.trans (hb.mono (by have := HBL.out.size; simpa using this))); clear hb))
        go_roundw
        case rel => exact ⟨k + 1, by omega, by go_num, HS.out, HB3.out⟩
        case measure => simp [intOf]; omega
      · have he' : edgeR u = false := by simpa using he
        have HE := Lib.hid he'
        clear hlt he he'
        go_wp2_with (first
          | (go_at_call 54; refine (rrightEdge_any u _).mono ?_; rintro e w3 ⟨rfl, hb⟩; rw [HE.out]; have HB3 := Lib.hid (HBL.out.trans (hb.mono (by have := HBL.out.size; simpa using this))); clear hb))
        go_ret
        exact ⟨ret_bool (tie_bad4 (all_not HX.out HE.out)).symm, HB.out.trans (HB3.out.mono (by omega))⟩
    · have HALL1 : RowKit.Hid (x.edges.all edgeR = true) := by
        have hp := HP.out
        have h1 := HN1.out
        rw [List.take_of_length_le (by omega)] at hp
        exact hp
      go_wp2
      clear hlt hk q8 HP
      go_loopw [4] (fun i wr => ∃ k : Nat, k ≤ n2 ∧ i = .int .i64 k ∧ (x.reaches.take k).all reachR = true ∧ Below (W.heap.size + 1) (W.alloc (.cells #[.int .i64 x.head.id.dir, .int .i64 x.head.id.orig, .int .i64 x.head.id.kind, .int .i64 x.head.id.nr, .int .i64 x.head.seq, .int .i64 x.head.life, .int .i64 x.level, .bool x.over, .slice ae n1 ce, .slice ar n2 cr] 39)) wr) (fun i _ => n2 - (intOf i).toNat)
      case atStart => exact ⟨0, Nat.zero_le _, rfl, rfl, HBL.out⟩
      case round =>
        obtain ⟨k, hk, rfl, hpre, hbel⟩ := hrel
        have HP := Lib.hid hpre
        have HBL := Lib.hid hbel
        have q9 : wr.cell? ⟨W.heap.size, 9, none⟩ = some (.slice ar n2 cr) := (hbel.cell (p := ⟨W.heap.size, 9, none⟩) (Nat.lt_succ_self _)).trans (A0.out.cellZ 9 rfl)
        clear hpre hbel
        by_cases hlt : k < n2
        · obtain ⟨b1, o1, rfl, hb1, hca⟩ := RR.out (by have := HN2.out; omega)
          obtain ⟨u, hu⟩ : ∃ u, x.reaches[k]? = some u := ⟨_, List.getElem?_eq_getElem (by have := HN2.out; omega)⟩
          have g0 : wr.cell? ⟨b1, o1 + k * 3, none⟩ = some _ := (HBL.out.cell (by show b1 < W.heap.size + 1; omega)).trans ((HB.out.cell hb1).trans (hca k u hu 0 _ rfl))
          have g1 : wr.cell? ⟨b1, o1 + k * 3 + 1, none⟩ = some _ := (HBL.out.cell (by show b1 < W.heap.size + 1; omega)).trans ((HB.out.cell hb1).trans (hca k u hu 1 _ rfl))
          have g2 : wr.cell? ⟨b1, o1 + k * 3 + 2, none⟩ = some _ := (HBL.out.cell (by show b1 < W.heap.size + 1; omega)).trans ((HB.out.cell hb1).trans (hca k u hu 2 _ rfl))
          have HX := Lib.hid hu
          have k0 : (0 : Int) ≤ (k : Int) := Int.natCast_nonneg _
          have k1 : (k : Int) < (n2 : Int) := by omega
          have hu0 := HOK.out u (List.mem_of_getElem? hu)
          clear hca hu
          by_cases he : (rgB 0 32 u.bits && shlB u.net u.bits) = true
          · have HE := Lib.hid he
            by_cases hm : rgB 0 1048576 u.metric = true
            · have HM := Lib.hid hm
              have HS := Lib.hid (all_next (f := reachR) HP.out HX.out (reach_yes hu0 he hm))
              clear hlt he hm
              go_wp2_with (first
                | (go_at_call 55; refine (rRightPrefix_any u.net u.bits hu0.1 hu0.2 _).mono ?_; rintro e w3 ⟨rfl, hb⟩; rw [HE.out]; have c2' : w3.cell? ⟨b1, o1 + k * 3 + 2, none⟩ = some (.int .i64 u.metric) := (hb.cell (p := ⟨b1, o1 + k * 3 + 2, none⟩) (by have := HBL.out.size; simp at this; show b1 < _; omega)).trans g2; have qq : w3.cell? ⟨W.heap.size, 9, none⟩ = some _ := (hb.cell (p := ⟨W.heap.size, 9, none⟩) (by have := HBL.out.size; simp at this; show W.heap.size < _; omega)).trans q9; have HB3 := Lib.hid (HBL.out.trans (hb.mono (by have := HBL.out.size; simpa using this))); clear hb)
                | (go_at_call 56; refine (rwithin_any _ _ _ _).mono ?_; rintro e w' ⟨rfl, rfl⟩; rw [HM.out]))
              go_roundw
              case rel => exact ⟨k + 1, by omega, by go_num, HS.out, HB3.out⟩
              case measure => simp [intOf]; omega
            · have hm' : rgB 0 1048576 u.metric = false := by simpa using hm
              have HM := Lib.hid hm'
              clear hlt he hm hm'
              go_wp2_with (first
                | (go_at_call 55; refine (rRightPrefix_any u.net u.bits hu0.1 hu0.2 _).mono ?_; rintro e w3 ⟨rfl, hb⟩; rw [HE.out]; have c2' : w3.cell? ⟨b1, o1 + k * 3 + 2, none⟩ = some (.int .i64 u.metric) := (hb.cell (p := ⟨b1, o1 + k * 3 + 2, none⟩) (by have := HBL.out.size; simp at this; show b1 < _; omega)).trans g2; have qq : w3.cell? ⟨W.heap.size, 9, none⟩ = some _ := (hb.cell (p := ⟨W.heap.size, 9, none⟩) (by have := HBL.out.size; simp at this; show W.heap.size < _; omega)).trans q9; have HB3 := Lib.hid (HBL.out.trans (hb.mono (by have := HBL.out.size; simpa using this))); clear hb)
                | (go_at_call 56; refine (rwithin_any _ _ _ _).mono ?_; rintro e w' ⟨rfl, rfl⟩; rw [HM.out]))
              go_ret
              exact ⟨ret_bool (tie_bad5 (all_not (f := reachR) HX.out (by simp [reachR, HM.out]))).symm, HB.out.trans (HB3.out.mono (by omega))⟩
          · have he' : (rgB 0 32 u.bits && shlB u.net u.bits) = false := by simpa using he
            have HE := Lib.hid he'
            clear hlt he he'
            go_wp2_with (first
              | (go_at_call 55; refine (rRightPrefix_any u.net u.bits hu0.1 hu0.2 _).mono ?_; rintro e w3 ⟨rfl, hb⟩; rw [HE.out]; have c2' : w3.cell? ⟨b1, o1 + k * 3 + 2, none⟩ = some (.int .i64 u.metric) := (hb.cell (p := ⟨b1, o1 + k * 3 + 2, none⟩) (by have := HBL.out.size; simp at this; show b1 < _; omega)).trans g2; have qq : w3.cell? ⟨W.heap.size, 9, none⟩ = some _ := (hb.cell (p := ⟨W.heap.size, 9, none⟩) (by have := HBL.out.size; simp at this; show W.heap.size < _; omega)).trans q9; have HB3 := Lib.hid (HBL.out.trans (hb.mono (by have := HBL.out.size; simpa using this))); clear hb))
            go_ret
            exact ⟨ret_bool (tie_bad5 (all_not (f := reachR) HX.out (reach_no HE.out))).symm, HB.out.trans (HB3.out.mono (by omega))⟩
        · have HALL2 : RowKit.Hid (x.reaches.all reachR = true) := by
            have hp := HP.out
            have h1 := HN2.out
            rw [List.take_of_length_le (by omega)] at hp
            exact hp
          have qk : wr.cell? ⟨W.heap.size, 2, none⟩ = some _ := (HBL.out.cell (p := ⟨W.heap.size, 2, none⟩) (Nat.lt_succ_self _)).trans (A0.out.cellZ 2 rfl)
          have q6 : wr.cell? ⟨W.heap.size, 6, none⟩ = some _ := (HBL.out.cell (p := ⟨W.heap.size, 6, none⟩) (Nat.lt_succ_self _)).trans (A0.out.cellZ 6 rfl)
          have q7 : wr.cell? ⟨W.heap.size, 7, none⟩ = some _ := (HBL.out.cell (p := ⟨W.heap.size, 7, none⟩) (Nat.lt_succ_self _)).trans (A0.out.cellZ 7 rfl)
          have q8 : wr.cell? ⟨W.heap.size, 8, none⟩ = some _ := (HBL.out.cell (p := ⟨W.heap.size, 8, none⟩) (Nat.lt_succ_self _)).trans (A0.out.cellZ 8 rfl)
          have HEND := Lib.hid (tie_end H1.out (by have := HN1.out; omega) (by have := HN2.out; omega) HALL1.out HALL2.out)
          by_cases hkd : x.head.id.kind = 1
          all_goals
            go_wp2_with (first
              | (go_at_call 56; refine (rwithin_any _ _ _ _).mono ?_; rintro e w' ⟨rfl, rfl⟩))
          all_goals go_ret
          all_goals exact ⟨ret_bool (by rw [HEND.out, HN1.out, HN2.out]; simp [int_beq0, *]), HB.out.trans (HBL.out.mono (by omega))⟩
end Go.Proofs.YtpaooddmgcekhaaGreat

/-
  THE DOCUMENT'S Put: what may not be; a full base.
-/
namespace Go.Proofs.YtpaooddmgcekhaaGreat.ti
set_option linter.unusedSimpArgs false
set_option linter.unusedVariables false
open Go.RowKit
structure PbS (w0 w : World) (rb : Nat) (room : Int) (K : List EnT) (t : TiV) (s : Sl2) (W : World) : Prop where
  r : RefD w0 W rb room K
  tb : Arr W w.heap.size 39 (cellsV t s)
  b : Below w.heap.size w W
theorem PbS.below {w0 w W W' : World} {rb : Nat} {room : Int} {K : List EnT} {t : TiV} {s : Sl2} (h : PbS w0 w rb room K t s W) (k : Below W.heap.size W W') : PbS w0 w rb room K t s W' := ⟨h.r.below k, h.tb.below k h.tb.lt, h.b.trans (k.mono h.b.size)⟩
theorem put_box {w0 w : World} {rb : Nat} {room : Int} {K : List EnT} {t : TiV} {s : Sl2} (h : RefD w0 w rb room K) : PbS w0 w rb room K t s (w.alloc (.cells #[.int .i64 t.hd.id.d, .int .i64 t.hd.id.o, .int .i64 t.hd.id.k, .int .i64 t.hd.id.n, .int .i64 t.hd.seq, .int .i64 t.hd.life, .int .i64 t.level, .bool t.over, .slice s.ea t.es.length s.ec, .slice s.ra t.rs.length s.rc] 39)) := by
  have b := (Below.refl _ w).alloc (Nat.le_refl _) (.cells #[.int .i64 t.hd.id.d, .int .i64 t.hd.id.o, .int .i64 t.hd.id.k, .int .i64 t.hd.id.n, .int .i64 t.hd.seq, .int .i64 t.hd.life, .int .i64 t.level, .bool t.over, .slice s.ea t.es.length s.ec, .slice s.ra t.rs.length s.rc] 39)
  exact ⟨h.below b, Arr.new w _ (cellsV t s), b⟩
theorem rright3 (t : TiV) (s : Sl2) {w0 : World} (h : Rd2 w0 t s) (W : World) (b : Below w0.heap.size w0 W) : Calls Tryz.prog 39 #[.agg (cellsV t s).toArray] W fun e w' => e = .returned (.bool (rightV t)) ∧ Below W.heap.size W w' := by
  have h2 := h.below b
  exact rRightTie_any t.tie s.ea s.ra s.ec s.rc (by have := h.le.1; show t.es.length ≤ _; omega) (by have := h.lr.1; show t.rs.length ≤ _; omega) h.ok W h2.e.rdr h2.r.rdr
theorem ref_cells {w0 W : World} {rb : Nat} {room : Int} {K : List EnT} (h : RefD w0 W rb room K) : ∃ (a : Option Addr) (c : Nat), W.cell? ⟨rb, 0, none⟩ = some (.int .i64 room) ∧ W.cell? ⟨rb, 1, none⟩ = some (.slice a K.length c) := by
  obtain ⟨v, L, hbs, how, hLK, _⟩ := h.has
  obtain ⟨a, c, rfl, _, _⟩ := how.shape
  rw [← hLK, List.length_map]
  exact ⟨a, c, by simp [World.cell?, hbs], by simp [World.cell?, hbs]⟩
set_option maxHeartbeats 3200000 in
set_option maxRecDepth 100000 in
theorem rput_wrong {w0 w : World} {rb : Nat} {room : Int} {K : List EnT} (h : RefD w0 w rb room K) (t : TiV) (s : Sl2) (hrd : Rd2 w0 t s) (now : Int) (hr : rightV t = false) : Calls Tryz.prog 22 #[.pointer (some ⟨rb, 0, none⟩), .agg #[.int .i64 t.hd.id.d, .int .i64 t.hd.id.o, .int .i64 t.hd.id.k, .int .i64 t.hd.id.n, .int .i64 t.hd.seq, .int .i64 t.hd.life, .int .i64 t.level, .bool t.over, .slice s.ea t.es.length s.ec, .slice s.ra t.rs.length s.rc], .int .i64 now] w fun e w' => e = .returned (.tuple #[.int .i64 0, .int .i64 1]) ∧ RefD w0 w' rb room K ∧ KeepR w w' := by
  obtain ⟨mo, hm⟩ : ∃ mo, decide (momD now) = mo := ⟨_, rfl⟩
  have HS1 := Lib.hid (put_box (t := t) (s := s) h)
  obtain ⟨w1, hw1⟩ : ∃ w1, w.alloc (.cells #[.int .i64 t.hd.id.d, .int .i64 t.hd.id.o, .int .i64 t.hd.id.k, .int .i64 t.hd.id.n, .int .i64 t.hd.seq, .int .i64 t.hd.life, .int .i64 t.level, .bool t.over, .slice s.ea t.es.length s.ec, .slice s.ra t.rs.length s.rc] 39) = w1 := ⟨_, rfl⟩
  rw [hw1] at HS1
  have HRI : Hid (∀ W, Below w.heap.size w W → Calls Tryz.prog 39 #[.agg (cellsV t s).toArray] W fun e w' => e = .returned (.bool false) ∧ Below W.heap.size W w') := fun W b => by
    have := rright3 t s hrd W (h.bel.trans (b.mono h.bel.size))
    rwa [hr] at this
  have HMO : Hid (∀ W, Calls Tryz.prog 30 #[.int .i64 now] W fun e w' => e = .returned (.bool mo) ∧ w' = W) := fun W => by
    have := rmom_any now W
    rwa [hm] at this
  clear h hrd hr hm
  go_enter Tryz.func22, Tryz.ntmps22
  go_wp2_with (first
    | (refine wpList_load_arr rfl 39 (.tmp 4) rfl w.heap.size rfl HS1.out.tb Tryz.underlying39 rfl sizeV rfl ?_)
    | (go_at_call 39; refine (HRI.out _ HS1.out.b).mono ?_; rintro e w2 ⟨rfl, hb⟩; have HS2 := Lib.hid (HS1.out.below hb); have q0 : w2.cell? ⟨w.heap.size, 0, none⟩ = some (.int .i64 t.hd.id.d) := HS2.out.tb.cell 0; have q1 : w2.cell? ⟨w.heap.size, 1, none⟩ = some (.int .i64 t.hd.id.o) := HS2.out.tb.cell 1; have q2 : w2.cell? ⟨w.heap.size, 2, none⟩ = some (.int .i64 t.hd.id.k) := HS2.out.tb.cell 2; have q3 : w2.cell? ⟨w.heap.size, 3, none⟩ = some (.int .i64 t.hd.id.n) := HS2.out.tb.cell 3; clear hb)
    | (go_at_call 30; refine (HMO.out _).mono ?_; rintro e w3 ⟨rfl, h3⟩; have h3 := h3.symm; subst h3))
  go_ret2
  exact ⟨rfl, HS2.out.r, KeepR.of_below HS2.out.b⟩
set_option maxHeartbeats 3200000 in
set_option maxRecDepth 100000 in
theorem rput_late {w0 w : World} {rb : Nat} {room : Int} {K : List EnT} (h : RefD w0 w rb room K) (t : TiV) (s : Sl2) (hrd : Rd2 w0 t s) (now : Int) (hr : rightV t = true) (hm : decide (momD now) = false) : Calls Tryz.prog 22 #[.pointer (some ⟨rb, 0, none⟩), .agg #[.int .i64 t.hd.id.d, .int .i64 t.hd.id.o, .int .i64 t.hd.id.k, .int .i64 t.hd.id.n, .int .i64 t.hd.seq, .int .i64 t.hd.life, .int .i64 t.level, .bool t.over, .slice s.ea t.es.length s.ec, .slice s.ra t.rs.length s.rc], .int .i64 now] w fun e w' => e = .returned (.tuple #[.int .i64 0, .int .i64 1]) ∧ RefD w0 w' rb room K ∧ KeepR w w' := by
  have HS1 := Lib.hid (put_box (t := t) (s := s) h)
  obtain ⟨w1, hw1⟩ : ∃ w1, w.alloc (.cells #[.int .i64 t.hd.id.d, .int .i64 t.hd.id.o, .int .i64 t.hd.id.k, .int .i64 t.hd.id.n, .int .i64 t.hd.seq, .int .i64 t.hd.life, .int .i64 t.level, .bool t.over, .slice s.ea t.es.length s.ec, .slice s.ra t.rs.length s.rc] 39) = w1 := ⟨_, rfl⟩
  rw [hw1] at HS1
  have HRI : Hid (∀ W, Below w.heap.size w W → Calls Tryz.prog 39 #[.agg (cellsV t s).toArray] W fun e w' => e = .returned (.bool true) ∧ Below W.heap.size W w') := fun W b => by
    have := rright3 t s hrd W (h.bel.trans (b.mono h.bel.size))
    rwa [hr] at this
  have HMO : Hid (∀ W, Calls Tryz.prog 30 #[.int .i64 now] W fun e w' => e = .returned (.bool false) ∧ w' = W) := fun W => by
    have := rmom_any now W
    rwa [hm] at this
  clear h hrd hr hm
  go_enter Tryz.func22, Tryz.ntmps22
  go_wp2_with (first
    | (refine wpList_load_arr rfl 39 (.tmp 4) rfl w.heap.size rfl HS1.out.tb Tryz.underlying39 rfl sizeV rfl ?_)
    | (go_at_call 39; refine (HRI.out _ HS1.out.b).mono ?_; rintro e w2 ⟨rfl, hb⟩; have HS2 := Lib.hid (HS1.out.below hb); have q0 : w2.cell? ⟨w.heap.size, 0, none⟩ = some (.int .i64 t.hd.id.d) := HS2.out.tb.cell 0; have q1 : w2.cell? ⟨w.heap.size, 1, none⟩ = some (.int .i64 t.hd.id.o) := HS2.out.tb.cell 1; have q2 : w2.cell? ⟨w.heap.size, 2, none⟩ = some (.int .i64 t.hd.id.k) := HS2.out.tb.cell 2; have q3 : w2.cell? ⟨w.heap.size, 3, none⟩ = some (.int .i64 t.hd.id.n) := HS2.out.tb.cell 3; clear hb)
    | (go_at_call 30; refine (HMO.out _).mono ?_; rintro e w3 ⟨rfl, h3⟩; have h3 := h3.symm; subst h3))
  go_ret2
  exact ⟨rfl, HS2.out.r, KeepR.of_below HS2.out.b⟩
set_option maxHeartbeats 3200000 in
set_option maxRecDepth 100000 in
theorem rput_full {w0 w : World} {rb : Nat} {room : Int} {K : List EnT} (h : RefD w0 w rb room K) (t : TiV) (s : Sl2) (hrd : Rd2 w0 t s) (now : Int) (hr : rightV t = true) (hm : decide (momD now) = true) (hpb : (plD K t.hd.id).2 = false) (hfull : room ≤ K.length) : Calls Tryz.prog 22 #[.pointer (some ⟨rb, 0, none⟩), .agg #[.int .i64 t.hd.id.d, .int .i64 t.hd.id.o, .int .i64 t.hd.id.k, .int .i64 t.hd.id.n, .int .i64 t.hd.seq, .int .i64 t.hd.life, .int .i64 t.level, .bool t.over, .slice s.ea t.es.length s.ec, .slice s.ra t.rs.length s.rc], .int .i64 now] w fun e w' => e = .returned (.tuple #[.int .i64 0, .int .i64 3]) ∧ RefD w0 w' rb room K ∧ KeepR w w' := by
  have HS1 := Lib.hid (put_box (t := t) (s := s) h)
  obtain ⟨w1, hw1⟩ : ∃ w1, w.alloc (.cells #[.int .i64 t.hd.id.d, .int .i64 t.hd.id.o, .int .i64 t.hd.id.k, .int .i64 t.hd.id.n, .int .i64 t.hd.seq, .int .i64 t.hd.life, .int .i64 t.level, .bool t.over, .slice s.ea t.es.length s.ec, .slice s.ra t.rs.length s.rc] 39) = w1 := ⟨_, rfl⟩
  rw [hw1] at HS1
  have HRI : Hid (∀ W, Below w.heap.size w W → Calls Tryz.prog 39 #[.agg (cellsV t s).toArray] W fun e w' => e = .returned (.bool true) ∧ Below W.heap.size W w') := fun W b => by
    have := rright3 t s hrd W (h.bel.trans (b.mono h.bel.size))
    rwa [hr] at this
  have HMO : Hid (∀ W, Calls Tryz.prog 30 #[.int .i64 now] W fun e w' => e = .returned (.bool true) ∧ w' = W) := fun W => by
    have := rmom_any now W
    rwa [hm] at this
  obtain ⟨k, hk⟩ : ∃ k, (plD K t.hd.id).1 = k := ⟨_, rfl⟩
  have HPL : Hid (∀ W, PbS w0 w rb room K t s W → Calls Tryz.prog 40 #[.pointer (some ⟨rb, 0, none⟩), .agg #[.int .i64 t.hd.id.d, .int .i64 t.hd.id.o, .int .i64 t.hd.id.k, .int .i64 t.hd.id.n]] W fun e w' => e = .returned (.tuple #[.int .i64 k, .bool false]) ∧ Below W.heap.size W w') := fun W p => by
    have := rplace_any p.r t.hd.id
    rwa [hk, hpb] at this
  obtain ⟨n, hn⟩ : ∃ n, K.length = n := ⟨_, rfl⟩
  have hd : decide (room ≤ (n : Int)) = true := decide_eq_true (by omega)
  have HN := Lib.hid hn
  clear h hrd hr hm hk hpb hfull hn
  go_enter Tryz.func22, Tryz.ntmps22
  go_wp2_with (first
    | (refine wpList_load_arr rfl 39 (.tmp 4) rfl w.heap.size rfl HS1.out.tb Tryz.underlying39 rfl sizeV rfl ?_)
    | (go_at_call 39; refine (HRI.out _ HS1.out.b).mono ?_; rintro e w2 ⟨rfl, hb⟩; have HS2 := Lib.hid (HS1.out.below hb); have q0 : w2.cell? ⟨w.heap.size, 0, none⟩ = some (.int .i64 t.hd.id.d) := HS2.out.tb.cell 0; have q1 : w2.cell? ⟨w.heap.size, 1, none⟩ = some (.int .i64 t.hd.id.o) := HS2.out.tb.cell 1; have q2 : w2.cell? ⟨w.heap.size, 2, none⟩ = some (.int .i64 t.hd.id.k) := HS2.out.tb.cell 2; have q3 : w2.cell? ⟨w.heap.size, 3, none⟩ = some (.int .i64 t.hd.id.n) := HS2.out.tb.cell 3; clear hb)
    | (go_at_call 30; refine (HMO.out _).mono ?_; rintro e w3 ⟨rfl, h3⟩; have h3 := h3.symm; subst h3)
    | (go_at_call 40; refine (HPL.out _ HS2.out).mono ?_; rintro e w4 ⟨rfl, hb⟩; have HS4 := Lib.hid (HS2.out.below hb); obtain ⟨a, c, z0, z1⟩ := ref_cells HS4.out.r; rw [HN.out] at z1; have z0' : w4.drew.cell? ⟨rb, 0, none⟩ = some (.int .i64 room) := z0; have z1' : w4.drew.cell? ⟨rb, 1, none⟩ = some (.slice a n c) := z1; clear hb))
  go_region
  all_goals go_wp2
  all_goals go_ret2
  all_goals exact ⟨rfl, HS4.out.r.below (Below.refl _ _).drew, (KeepR.of_below HS4.out.b).trans (KeepR.of_below (Below.refl _ _).drew)⟩
end Go.Proofs.YtpaooddmgcekhaaGreat.ti

/-
  THE DOCUMENT'S Put: what is not newer.
-/
namespace Go.Proofs.YtpaooddmgcekhaaGreat.ti
set_option linter.unusedSimpArgs false
set_option linter.unusedVariables false
open Go.RowKit
attribute [local go_sem] field_head
theorem row_below1 {w0 W W' : World} {rb k g o n c : Nat} {x : EnK} (h : RowD w0 W rb k g o n c x ∧ g < W.heap.size ∧ rb < W.heap.size) (b : Below W.heap.size W W') : RowD w0 W' rb k g o n c x ∧ g < W'.heap.size ∧ rb < W'.heap.size :=
  ⟨h.1.below h.2 b, by have := b.size; have := h.2; omega⟩
theorem row_below {w0 U V W : World} {rb k g o n c : Nat} {x : EnK} (h : RowD w0 U rb k g o n c x ∧ g < U.heap.size ∧ rb < U.heap.size) (a : Below U.heap.size U V) (b : Below V.heap.size V W) : RowD w0 W rb k g o n c x ∧ g < W.heap.size ∧ rb < W.heap.size := row_below1 (row_below1 h a) b
theorem put_keep {w0 w W : World} {rb : Nat} {room : Int} {K : List EnT} {t : TiV} {s : Sl2} {k g o n c : Nat} {x : EnK} (h : PbS w0 w rb room K t s W) (r : RowD w0 W rb k g o n c x) : W.cell? ⟨rb, 1, none⟩ = some (.slice (some ⟨g, o, none⟩) n c) ∧ W.cell? ⟨g, o + k * 11, none⟩ = some (.int .i64 x.e.t.hd.id.d) ∧ W.cell? ⟨g, o + k * 11 + 1, none⟩ = some (.int .i64 x.e.t.hd.id.o) ∧ W.cell? ⟨g, o + k * 11 + 2, none⟩ = some (.int .i64 x.e.t.hd.id.k) ∧ W.cell? ⟨g, o + k * 11 + 3, none⟩ = some (.int .i64 x.e.t.hd.id.n) ∧ W.cell? ⟨g, o + k * 11 + 4, none⟩ = some (.int .i64 x.e.t.hd.seq) ∧ W.cell? ⟨g, o + k * 11 + 5, none⟩ = some (.int .i64 x.e.t.hd.life) ∧ W.cell? ⟨g, o + k * 11 + 6, none⟩ = some (.int .i64 x.e.t.level) ∧ W.cell? ⟨g, o + k * 11 + 7, none⟩ = some (.bool x.e.t.over) ∧ W.cell? ⟨g, o + k * 11 + 8, none⟩ = some (.slice x.s.ea x.e.t.es.length x.s.ec) ∧ W.cell? ⟨g, o + k * 11 + 9, none⟩ = some (.slice x.s.ra x.e.t.rs.length x.s.rc) ∧ W.cell? ⟨g, o + k * 11 + 10, none⟩ = some (.int .i64 x.e.exp) ∧ W.cell? ⟨w.heap.size, 0, none⟩ = some (.int .i64 t.hd.id.d) ∧ W.cell? ⟨w.heap.size, 1, none⟩ = some (.int .i64 t.hd.id.o) ∧ W.cell? ⟨w.heap.size, 2, none⟩ = some (.int .i64 t.hd.id.k) ∧ W.cell? ⟨w.heap.size, 3, none⟩ = some (.int .i64 t.hd.id.n) ∧ W.cell? ⟨w.heap.size, 4, none⟩ = some (.int .i64 t.hd.seq) ∧ W.cell? ⟨w.heap.size, 5, none⟩ = some (.int .i64 t.hd.life) := by
  have hr := r.rg
  exact ⟨r.c, hr 0 _ rfl, hr 1 _ rfl, hr 2 _ rfl, hr 3 _ rfl, hr 4 _ rfl, hr 5 _ rfl, hr 6 _ rfl, hr 7 _ rfl, hr 8 _ rfl, hr 9 _ rfl, hr 10 _ rfl, h.tb.cell 0, h.tb.cell 1, h.tb.cell 2, h.tb.cell 3, h.tb.cell 4, h.tb.cell 5⟩
set_option maxHeartbeats 6400000 in
set_option maxRecDepth 100000 in
theorem rput_old {w0 w : World} {rb : Nat} {room : Int} {K : List EnT} (h : RefD w0 w rb room K) (t : TiV) (s : Sl2) (hrd : Rd2 w0 t s) (now : Int) (hr : rightV t = true) (hm : decide (momD now) = true) (hpb : (plD K t.hd.id).2 = true) {y : EnT} (hy : K[(plD K t.hd.id).1]? = some y) {nv : Int} (hnv : newT t.hd (headD y now) = nv) (hnn : ¬ 0 < nv) : Calls Tryz.prog 22 #[.pointer (some ⟨rb, 0, none⟩), .agg #[.int .i64 t.hd.id.d, .int .i64 t.hd.id.o, .int .i64 t.hd.id.k, .int .i64 t.hd.id.n, .int .i64 t.hd.seq, .int .i64 t.hd.life, .int .i64 t.level, .bool t.over, .slice s.ea t.es.length s.ec, .slice s.ra t.rs.length s.rc], .int .i64 now] w fun e w' => e = .returned (.tuple #[.int .i64 nv, .int .i64 0]) ∧ RefD w0 w' rb room K ∧ KeepR w w' := by
  have HS1 := Lib.hid (put_box (t := t) (s := s) h)
  obtain ⟨w1, hw1⟩ : ∃ w1, w.alloc (.cells #[.int .i64 t.hd.id.d, .int .i64 t.hd.id.o, .int .i64 t.hd.id.k, .int .i64 t.hd.id.n, .int .i64 t.hd.seq, .int .i64 t.hd.life, .int .i64 t.level, .bool t.over, .slice s.ea t.es.length s.ec, .slice s.ra t.rs.length s.rc] 39) = w1 := ⟨_, rfl⟩
  rw [hw1] at HS1
  have HRI : Hid (∀ W, Below w.heap.size w W → Calls Tryz.prog 39 #[.agg (cellsV t s).toArray] W fun e w' => e = .returned (.bool true) ∧ Below W.heap.size W w') := fun W b => by
    have := rright3 t s hrd W (h.bel.trans (b.mono h.bel.size))
    rwa [hr] at this
  have HMO : Hid (∀ W, Calls Tryz.prog 30 #[.int .i64 now] W fun e w' => e = .returned (.bool true) ∧ w' = W) := fun W => by
    have := rmom_any now W
    rwa [hm] at this
  obtain ⟨k, hk⟩ : ∃ k, (plD K t.hd.id).1 = k := ⟨_, rfl⟩
  have HPL : Hid (∀ W, PbS w0 w rb room K t s W → Calls Tryz.prog 40 #[.pointer (some ⟨rb, 0, none⟩), .agg #[.int .i64 t.hd.id.d, .int .i64 t.hd.id.o, .int .i64 t.hd.id.k, .int .i64 t.hd.id.n]] W fun e w' => e = .returned (.tuple #[.int .i64 k, .bool true]) ∧ Below W.heap.size W w') := fun W p => by
    have := rplace_any p.r t.hd.id
    rwa [hk, hpb] at this
  have hrh := right_head hr
  have hmm := of_decide_eq_true hm
  have hin := (h.inv.ok y (List.mem_of_getElem? hy)).2
  rw [hk] at hy
  obtain ⟨g, o, n, c, x, hrow, rfl, hgg⟩ := row_at HS1.out.r hy
  obtain ⟨lf, hlf⟩ : ∃ lf, leftD x.e now = lf := ⟨_, rfl⟩
  have hli : In64 lf := by unfold momD at hmm; rw [← hlf]; unfold leftD In64; split <;> omega
  have HROW := Lib.hid (And.intro hrow hgg)
  have hlt := hrow.lt
  have HT : Hid (∀ W, Below w.heap.size w W → Calls Tryz.prog 31 #[.agg #[.int .i64 x.e.t.hd.id.d, .int .i64 x.e.t.hd.id.o, .int .i64 x.e.t.hd.id.k, .int .i64 x.e.t.hd.id.n, .int .i64 x.e.t.hd.seq, .int .i64 x.e.t.hd.life, .int .i64 x.e.t.level, .bool x.e.t.over, .slice x.s.ea x.e.t.es.length x.s.ec, .slice x.s.ra x.e.t.rs.length x.s.rc, .int .i64 x.e.exp], .int .i64 now] W fun e w' => ∃ s1 : Sl2, e = .returned (.agg #[.int .i64 x.e.t.hd.id.d, .int .i64 x.e.t.hd.id.o, .int .i64 x.e.t.hd.id.k, .int .i64 x.e.t.hd.id.n, .int .i64 x.e.t.hd.seq, .int .i64 lf, .int .i64 x.e.t.level, .bool x.e.t.over, .slice s1.ea x.e.t.es.length s1.ec, .slice s1.ra x.e.t.rs.length s1.rc]) ∧ Below W.heap.size W w') := fun W b => by
    refine (rtold_any x now W (hrow.rd.below (h.bel.trans (b.mono h.bel.size))) (by unfold momD at hmm; omega)).mono ?_
    rintro e w' ⟨s1, rfl, _, hb⟩
    refine ⟨s1, ?_, hb⟩
    rw [← hlf]
    rfl
  have HNW : Hid (∀ W, Calls Tryz.prog 41 #[.agg #[.int .i64 t.hd.id.d, .int .i64 t.hd.id.o, .int .i64 t.hd.id.k, .int .i64 t.hd.id.n, .int .i64 t.hd.seq, .int .i64 t.hd.life], .agg #[.int .i64 x.e.t.hd.id.d, .int .i64 x.e.t.hd.id.o, .int .i64 x.e.t.hd.id.k, .int .i64 x.e.t.hd.id.n, .int .i64 x.e.t.hd.seq, .int .i64 lf]] W fun e w' => e = .returned (.int .i64 nv) ∧ Below W.heap.size W w') := fun W => by
    have := rnewer_any t.hd (headD x.e now) (by unfold In64; omega) (by show In64 (leftD x.e now); rw [hlf]; exact hli) W
    rw [hnv] at this
    unfold headD at this
    rw [hlf] at this
    exact this
  have hd : decide (0 < nv) = false := decide_eq_false hnn
  clear h hrd hr hm hk hpb hrow hgg hy hrh hmm hin hlf hli hnv hnn
  go_enter Tryz.func22, Tryz.ntmps22
  go_wp2_with (first
    | (refine wpList_load_arr rfl 39 (.tmp 4) rfl w.heap.size rfl HS1.out.tb Tryz.underlying39 rfl sizeV rfl ?_)
    | (go_at_call 39; refine (HRI.out _ HS1.out.b).mono ?_; rintro e w2 ⟨rfl, hb⟩; have HS2 := Lib.hid (HS1.out.below hb); have q0 : w2.cell? ⟨w.heap.size, 0, none⟩ = some (.int .i64 t.hd.id.d) := HS2.out.tb.cell 0; have q1 : w2.cell? ⟨w.heap.size, 1, none⟩ = some (.int .i64 t.hd.id.o) := HS2.out.tb.cell 1; have q2 : w2.cell? ⟨w.heap.size, 2, none⟩ = some (.int .i64 t.hd.id.k) := HS2.out.tb.cell 2; have q3 : w2.cell? ⟨w.heap.size, 3, none⟩ = some (.int .i64 t.hd.id.n) := HS2.out.tb.cell 3; have HB12 := Lib.hid hb; clear hb)
    | (go_at_call 30; refine (HMO.out _).mono ?_; rintro e w3 ⟨rfl, h3⟩; have h3 := h3.symm; subst h3)
    | (go_at_call 40; refine (HPL.out _ HS2.out).mono ?_; rintro e w4 ⟨rfl, hb⟩; have HS4 := Lib.hid ((HS2.out.below hb).below (Below.refl _ _).drew); have HR4 := Lib.hid (row_below HROW.out HB12.out (hb.trans (Below.refl _ _).drew)); clear hb))
  go_region_held (fun W => W.cell? ⟨rb, 1, none⟩ = some (.slice (some ⟨g, o, none⟩) n c) ∧ W.cell? ⟨g, o + k * 11, none⟩ = some (.int .i64 x.e.t.hd.id.d) ∧ W.cell? ⟨g, o + k * 11 + 1, none⟩ = some (.int .i64 x.e.t.hd.id.o) ∧ W.cell? ⟨g, o + k * 11 + 2, none⟩ = some (.int .i64 x.e.t.hd.id.k) ∧ W.cell? ⟨g, o + k * 11 + 3, none⟩ = some (.int .i64 x.e.t.hd.id.n) ∧ W.cell? ⟨g, o + k * 11 + 4, none⟩ = some (.int .i64 x.e.t.hd.seq) ∧ W.cell? ⟨g, o + k * 11 + 5, none⟩ = some (.int .i64 x.e.t.hd.life) ∧ W.cell? ⟨g, o + k * 11 + 6, none⟩ = some (.int .i64 x.e.t.level) ∧ W.cell? ⟨g, o + k * 11 + 7, none⟩ = some (.bool x.e.t.over) ∧ W.cell? ⟨g, o + k * 11 + 8, none⟩ = some (.slice x.s.ea x.e.t.es.length x.s.ec) ∧ W.cell? ⟨g, o + k * 11 + 9, none⟩ = some (.slice x.s.ra x.e.t.rs.length x.s.rc) ∧ W.cell? ⟨g, o + k * 11 + 10, none⟩ = some (.int .i64 x.e.exp) ∧ W.cell? ⟨w.heap.size, 0, none⟩ = some (.int .i64 t.hd.id.d) ∧ W.cell? ⟨w.heap.size, 1, none⟩ = some (.int .i64 t.hd.id.o) ∧ W.cell? ⟨w.heap.size, 2, none⟩ = some (.int .i64 t.hd.id.k) ∧ W.cell? ⟨w.heap.size, 3, none⟩ = some (.int .i64 t.hd.id.n) ∧ W.cell? ⟨w.heap.size, 4, none⟩ = some (.int .i64 t.hd.seq) ∧ W.cell? ⟨w.heap.size, 5, none⟩ = some (.int .i64 t.hd.life)) (first | exact put_keep HS4.out HR4.out.1 | exact put_keep HS5.out HR5.out.1 | exact put_keep HS6.out HR6.out.1)
    (first
      | (go_at_call 31; (with_reducible refine (HT.out _ HS4.out.b).mono ?_); rintro e w5 ⟨s1, rfl, hb⟩; have HS5 := Lib.hid (HS4.out.below hb); have HR5 := Lib.hid (row_below1 HR4.out hb); clear hb)
      | (go_at_call 41; (with_reducible refine (HNW.out _).mono ?_); rintro e w6 ⟨rfl, hb⟩; have HS6 := Lib.hid (HS5.out.below hb); have HR6 := Lib.hid (row_below1 HR5.out hb); clear hb))
  go_wp2
  go_ret2
  exact ⟨rfl, HS6.out.r, KeepR.of_below HS6.out.b⟩
end Go.Proofs.YtpaooddmgcekhaaGreat.ti

/-
  Put's insertion: the row with a new piece at its place; slices of a row that may be nil.
-/
namespace Go.Proofs.YtpaooddmgcekhaaGreat.ti
set_option linter.unusedSimpArgs false
set_option linter.unusedVariables false
open Go.RowKit
theorem pl_ins : ∀ {K : List EnT} (_ : AscD K) {e : EnT} {k : Nat}, plD K e.id = (k, false) → insD K e = K.take k ++ [e] ++ K.drop k
  | [], _, e, k, h => by simp [insD]
  | y :: r, ha, e, k, h => by
    have hr : AscD r := (List.pairwise_cons.1 ha).2
    unfold plD at h
    by_cases hc : cmpT y.id e.id < 0
    · rw [if_pos hc] at h
      cases k with
      | zero => simp at h
      | succ k =>
        have h2 : plD r e.id = (k, false) := by
          have e1 := congrArg Prod.fst h
          have e2 := congrArg Prod.snd h
          exact Prod.ext (by simpa using e1) (by simpa using e2)
        have := pl_ins hr h2
        unfold insD
        rw [if_pos (cmp_neg.1 hc), List.take_succ_cons, List.drop_succ_cons, this]
        rfl
    · rw [if_neg hc] at h
      have e1 := congrArg Prod.fst h
      have e2 := congrArg Prod.snd h
      have hk : k = 0 := e1.symm
      have he : ¬ y.id = e.id := fun q => by have := of_decide_eq_false e2; exact this (cmp_zero.2 q)
      subst hk
      unfold insD
      rw [if_neg (fun q => hc (cmp_neg.2 q)), if_neg he]
      rfl
theorem pl_set : ∀ {K : List EnT} (_ : AscD K) {e : EnT} {k : Nat}, plD K e.id = (k, true) → insD K e = K.set k e
  | [], _, e, k, h => by simp [plD] at h
  | y :: r, ha, e, k, h => by
    have hr : AscD r := (List.pairwise_cons.1 ha).2
    unfold plD at h
    by_cases hc : cmpT y.id e.id < 0
    · rw [if_pos hc] at h
      cases k with
      | zero => simp at h
      | succ k =>
        have h2 : plD r e.id = (k, true) := by
          have e1 := congrArg Prod.fst h
          have e2 := congrArg Prod.snd h
          exact Prod.ext (by simpa using e1) (by simpa using e2)
        have := pl_set hr h2
        unfold insD
        rw [if_pos (cmp_neg.1 hc), List.set_cons_succ, this]
    · rw [if_neg hc] at h
      have e1 := congrArg Prod.fst h
      have e2 := congrArg Prod.snd h
      have hk : k = 0 := e1.symm
      have he : y.id = e.id := cmp_zero.1 (of_decide_eq_true e2)
      subst hk
      unfold insD
      rw [if_neg (fun q => hc (cmp_neg.2 q)), if_pos he]
      rfl
theorem slice_headN (a : Option Addr) (n c k : Nat) (hk : k ≤ n) (hc : n ≤ c) (hn : a = none → c = 0) : ∃ ad : Option Addr, (∀ W : World, (Instr.slice 62 (.slice a n c) none (some (.int .i64 (k : Nat))) none).run Tryz.prog W = .ok (.slice ad k c) W) ∧ ∀ (W : World) (L : List EnK), RdE 11 cellsK W a L → RdE 11 cellsK W ad (L.take k) := by
  cases a with
  | none =>
    obtain rfl : c = 0 := hn rfl
    obtain rfl : n = 0 := by omega
    obtain rfl : k = 0 := by omega
    refine ⟨none, fun W => ?_, fun W L h => h.take 0⟩
    go_simp
  | some ad =>
    refine ⟨some ad, fun W => ?_, fun W L h => h.take k⟩
    have hkc : k ≤ c := by omega
    go_simp
theorem slice_tailO (a : Option Addr) (ha : a = none ∨ ∃ g, a = some ⟨g, 0, none⟩) (n c k : Nat) (hk : k ≤ n) (hc : n ≤ c) (hn : a = none → c = 0) : ∃ ad : Option Addr, (∀ W : World, (Instr.slice 62 (.slice a n c) (some (.int .i64 (k : Nat))) none none).run Tryz.prog W = .ok (.slice ad (n - k) (c - k)) W) ∧ ∀ (W : World) (L : List EnK), L.length = n → RdE 11 cellsK W a L → RdE 11 cellsK W ad (L.drop k) := by
  rcases ha with rfl | ⟨g, rfl⟩
  · obtain rfl : c = 0 := hn rfl
    obtain rfl : n = 0 := by omega
    obtain rfl : k = 0 := by omega
    refine ⟨none, fun W => ?_, fun W L _ h => h⟩
    go_simp
  · obtain ⟨ad, hrun, hcs⟩ := slice_tailN g n c k hk hc
    refine ⟨some ad, hrun, fun W L hL hW => ?_⟩
    rcases hcs with ⟨h1, rfl⟩ | ⟨h1, rfl⟩
    · have : L.drop k = [] := List.drop_eq_nil_of_le (by omega)
      rw [this]
      exact RdE.nil _ _
    · have := hW.drop k
      rwa [Nat.zero_add] at this
end Go.Proofs.YtpaooddmgcekhaaGreat.ti

/-
  THE DOCUMENT'S Put: what is newer.
-/
namespace Go.Proofs.YtpaooddmgcekhaaGreat.ti
set_option linter.unusedSimpArgs false
set_option linter.unusedVariables false
open Go.RowKit
attribute [local go_sem] field_head
theorem region_tail {P : Program} {id : Nat} {Q : Exit → Act → World → Prop} {a : Act} {w : World} {l : List Oper} (n : Nat) (hm : P.follows .mixedOrders = true) (hB : Region.lexTailB .any l.toArray n = true) (W : World) (hW : w.drew = W)
    (h : wpStill P l.toArray W (fun a' => wpList P l.toArray Q (l.drop n) a' W) (l.take n) a) : (Code.region id l.toArray true).wp P Q a w := by
  subst hW
  exact wp_region_still_tail n hm hB h
/-- Cells laid anew in a list. -/
def setL : List Value → Nat → List Value → List Value
  | xs, _, [] => xs
  | xs, o, v :: r => setL (xs.set o v) (o + 1) r
theorem setL_mid : ∀ (B A C R : List Value), A.length = B.length → setL (C ++ (A ++ R)) C.length B = C ++ (B ++ R)
  | [], A, C, R, h => by rw [List.eq_nil_of_length_eq_zero h]; rfl
  | b :: B, [], C, R, h => by simp at h
  | b :: B, a :: A, C, R, h => by
    have e : (C ++ (a :: A ++ R)).set C.length b = (C ++ [b]) ++ (A ++ R) := by
      rw [List.set_append_right _ _ (Nat.le_refl _), Nat.sub_self]
      simp
    unfold setL
    rw [e, show C.length + 1 = (C ++ [b]).length by simp, setL_mid B A (C ++ [b]) R (by simpa using h)]
    simp
theorem KindE.row_set {E' : Type} {sl T : TypeId} {sz bytes : Nat} {z : Value} {enc : E' → List Value} (K : KindE sl T sz bytes z enc) {l : List E'} {k : Nat} (hk : k < l.length) (y : E') : rowE enc (l.set k y) = setL (rowE enc l) (k * sz) (enc y) := by
  have e1 : l = l.take k ++ (l[k] :: l.drop (k + 1)) := by rw [← List.drop_eq_getElem_cons hk, List.take_append_drop]
  have e2 : l.set k y = l.take k ++ (y :: l.drop (k + 1)) := by
    rw [List.set_eq_take_append_cons_drop, if_pos hk]
  rw [e2]
  conv => rhs; rw [e1]
  rw [rowE_append, rowE_append, rowE_cons, rowE_cons]
  have e3 : k * sz = (rowE enc (l.take k)).length := by rw [K.row_len, List.length_take, Nat.min_eq_left (Nat.le_of_lt hk)]
  rw [e3, setL_mid _ _ _ _ (by rw [K.len, K.len])]
theorem own_setCells {T : TypeId} {size base g n cap : Nat} : ∀ (vs : List Value) (o : Nat) (W : World) (xs : List Value), W.ownsRow base T size (.slice (some ⟨g, 0, none⟩) n cap) n xs → (W.setCells g o vs).ownsRow base T size (.slice (some ⟨g, 0, none⟩) n cap) n (setL xs o vs)
  | [], o, W, xs, h => h
  | v :: r, o, W, xs, h => own_setCells r (o + 1) _ _ (World.ownsRow.stored h o v).1
theorem heap_setCells (g : Nat) : ∀ (vs : List Value) (o : Nat) (W : World) (j : Nat), j ≠ g → (W.setCells g o vs).heap[j]? = W.heap[j]?
  | [], _, _, _, _ => rfl
  | v :: r, o, W, j, h => (heap_setCells g r (o + 1) _ j h).trans (heap_setCell_other _ _ _ _ h)
theorem size_setCells (g : Nat) : ∀ (vs : List Value) (o : Nat) (W : World), (W.setCells g o vs).heap.size = W.heap.size
  | [], _, _ => rfl
  | v :: r, o, W => (size_setCells g r (o + 1) _).trans (by simp [World.setCell])
theorem below_setCells (g : Nat) {B : Nat} (hg : B ≤ g) : ∀ (vs : List Value) (o : Nat) (w W : World), Below B w W → Below B w (W.setCells g o vs)
  | [], _, _, _, h => h
  | v :: r, o, w, W, h => below_setCells g hg r (o + 1) w _ (h.setCell (p := ⟨g, o, none⟩) hg v)
theorem cellsK_all (x : EnK) : (cellsK x).toArray.all (·.oneCell') = true := all_oneCell_toArray (kindN.one x)
/-- A piece's place in the document's row. -/
structure SetK (w0 W : World) (rb : Nat) (room : Int) (K : List EnT) (k g o n c : Nat) : Prop where
  facts : o = 0 ∧ k < n ∧ W.there g (k * 11) (cellsK (⟨⟨TiV.nil, 0⟩, ⟨none, 0, none, 0⟩⟩ : EnK)).length
  put : ∀ y : EnK, Rd2 w0 y.e.t y.s → InvD room (K.set k y.e) → RefD w0 (W.setCells g (k * 11) (cellsK y)) rb room (K.set k y.e) ∧ KeepR W (W.setCells g (k * 11) (cellsK y))
theorem set_k {w0 W : World} {rb : Nat} {room : Int} {K : List EnT} (h : RefD w0 W rb room K) {k g o n c : Nat} {x : EnK} (r : RowD w0 W rb k g o n c x) : SetK w0 W rb room K k g o n c := by
  obtain ⟨v, L, hbs, how, hLK, hrd⟩ := h.has
  have hv : W.cell? ⟨rb, 1, none⟩ = some v := by simp [World.cell?, hbs]
  rw [r.c] at hv
  obtain rfl := Option.some.inj hv
  rcases how.form with ⟨e, _⟩ | ⟨g', cap, e, hg1, hg2, hn1, hn2⟩
  · cases e
  · injection e with e1 e2 e3
    cases e1
    subst e2 e3
    obtain ⟨cur, hcur⟩ := how.block (g := g) rfl
    have hne : g ≠ rb := fun q => by rw [q, hbs] at hcur; cases hcur
    have hfz : ∀ i, W.frozen? ⟨g, i, none⟩ = false := fun i => by simp [World.frozen?, hcur]
    refine ⟨⟨rfl, r.lt, fun j hj => ⟨?_, hfz _⟩⟩, fun y hy hi => ⟨⟨⟨.slice (some ⟨g, 0, none⟩) L.length c, L.set k y, ?_, ?_, ?_, ?_⟩, h.hb, ?_, hi⟩, ⟨?_, ?_⟩⟩⟩
    · obtain ⟨u, hu⟩ : ∃ u, (cellsK x)[j]? = some u := ⟨_, List.getElem?_eq_getElem (by exact hj)⟩
      have := r.rg j u hu
      rw [Nat.zero_add] at this
      rw [this]; rfl
    · rw [heap_setCells g _ _ _ _ (Ne.symm hne)]; exact hbs
    · have h2 := own_setCells (cellsK y) (k * 11) W _ how
      unfold OwnE
      rw [kindN.row_set r.lt, List.length_set]
      exact h2
    · rw [List.map_set, hLK]
    · intro z hz
      rcases List.mem_or_eq_of_mem_set hz with q | q
      · exact hrd z q
      · rw [q]; exact hy
    · exact below_setCells g hg1 _ _ _ _ h.bel
    · rw [size_setCells]; exact Nat.le_refl _
    · intro j ob hj hnr
      have hjg : j ≠ g := fun q => by
        rw [q, hcur] at hj
        injection hj with hj
        exact hnr (by rw [← hj]; exact .inr rfl)
      rw [heap_setCells g _ _ _ _ hjg]; exact hj
set_option maxHeartbeats 6400000 in
set_option maxRecDepth 100000 in
theorem rput_new {w0 w : World} {rb : Nat} {room : Int} {K : List EnT} (h : RefD w0 w rb room K) (t : TiV) (s : Sl2) (hrd : Rd2 w0 t s) (now : Int) (hr : rightV t = true) (hm : decide (momD now) = true) (hpb : (plD K t.hd.id).2 = true) {y : EnT} (hy : K[(plD K t.hd.id).1]? = some y) {nv : Int} (hnv : newT t.hd (headD y now) = nv) (hnn : 0 < nv) (hinv : InvD room (insD K (enD t now))) : Calls Tryz.prog 22 #[.pointer (some ⟨rb, 0, none⟩), .agg #[.int .i64 t.hd.id.d, .int .i64 t.hd.id.o, .int .i64 t.hd.id.k, .int .i64 t.hd.id.n, .int .i64 t.hd.seq, .int .i64 t.hd.life, .int .i64 t.level, .bool t.over, .slice s.ea t.es.length s.ec, .slice s.ra t.rs.length s.rc], .int .i64 now] w fun e w' => e = .returned (.tuple #[.int .i64 2, .int .i64 0]) ∧ RefD w0 w' rb room (insD K (enD t now)) ∧ KeepR w w' := by
  have HS1 := Lib.hid (put_box (t := t) (s := s) h)
  obtain ⟨w1, hw1⟩ : ∃ w1, w.alloc (.cells #[.int .i64 t.hd.id.d, .int .i64 t.hd.id.o, .int .i64 t.hd.id.k, .int .i64 t.hd.id.n, .int .i64 t.hd.seq, .int .i64 t.hd.life, .int .i64 t.level, .bool t.over, .slice s.ea t.es.length s.ec, .slice s.ra t.rs.length s.rc] 39) = w1 := ⟨_, rfl⟩
  rw [hw1] at HS1
  have HRI : Hid (∀ W, Below w.heap.size w W → Calls Tryz.prog 39 #[.agg (cellsV t s).toArray] W fun e w' => e = .returned (.bool true) ∧ Below W.heap.size W w') := fun W b => by
    have := rright3 t s hrd W (h.bel.trans (b.mono h.bel.size))
    rwa [hr] at this
  have HMO : Hid (∀ W, Calls Tryz.prog 30 #[.int .i64 now] W fun e w' => e = .returned (.bool true) ∧ w' = W) := fun W => by
    have := rmom_any now W
    rwa [hm] at this
  obtain ⟨k, hk⟩ : ∃ k, (plD K t.hd.id).1 = k := ⟨_, rfl⟩
  have HPL : Hid (∀ W, PbS w0 w rb room K t s W → Calls Tryz.prog 40 #[.pointer (some ⟨rb, 0, none⟩), .agg #[.int .i64 t.hd.id.d, .int .i64 t.hd.id.o, .int .i64 t.hd.id.k, .int .i64 t.hd.id.n]] W fun e w' => e = .returned (.tuple #[.int .i64 k, .bool true]) ∧ Below W.heap.size W w') := fun W p => by
    have := rplace_any p.r t.hd.id
    rwa [hk, hpb] at this
  have hrh := right_head hr
  have hmm := of_decide_eq_true hm
  have hin := (h.inv.ok y (List.mem_of_getElem? hy)).2
  rw [hk] at hy
  obtain ⟨g, o, n, c, x, hrow, rfl, hgg⟩ := row_at HS1.out.r hy
  obtain ⟨lf, hlf⟩ : ∃ lf, leftD x.e now = lf := ⟨_, rfl⟩
  have hli : In64 lf := by unfold momD at hmm; rw [← hlf]; unfold leftD In64; split <;> omega
  have HROW := Lib.hid (And.intro hrow hgg)
  have hlt := hrow.lt
  have HT : Hid (∀ W, Below w.heap.size w W → Calls Tryz.prog 31 #[.agg #[.int .i64 x.e.t.hd.id.d, .int .i64 x.e.t.hd.id.o, .int .i64 x.e.t.hd.id.k, .int .i64 x.e.t.hd.id.n, .int .i64 x.e.t.hd.seq, .int .i64 x.e.t.hd.life, .int .i64 x.e.t.level, .bool x.e.t.over, .slice x.s.ea x.e.t.es.length x.s.ec, .slice x.s.ra x.e.t.rs.length x.s.rc, .int .i64 x.e.exp], .int .i64 now] W fun e w' => ∃ s1 : Sl2, e = .returned (.agg #[.int .i64 x.e.t.hd.id.d, .int .i64 x.e.t.hd.id.o, .int .i64 x.e.t.hd.id.k, .int .i64 x.e.t.hd.id.n, .int .i64 x.e.t.hd.seq, .int .i64 lf, .int .i64 x.e.t.level, .bool x.e.t.over, .slice s1.ea x.e.t.es.length s1.ec, .slice s1.ra x.e.t.rs.length s1.rc]) ∧ Below W.heap.size W w') := fun W b => by
    refine (rtold_any x now W (hrow.rd.below (h.bel.trans (b.mono h.bel.size))) (by unfold momD at hmm; omega)).mono ?_
    rintro e w' ⟨s1, rfl, _, hb⟩
    refine ⟨s1, ?_, hb⟩
    rw [← hlf]
    rfl
  have HNW : Hid (∀ W, Calls Tryz.prog 41 #[.agg #[.int .i64 t.hd.id.d, .int .i64 t.hd.id.o, .int .i64 t.hd.id.k, .int .i64 t.hd.id.n, .int .i64 t.hd.seq, .int .i64 t.hd.life], .agg #[.int .i64 x.e.t.hd.id.d, .int .i64 x.e.t.hd.id.o, .int .i64 x.e.t.hd.id.k, .int .i64 x.e.t.hd.id.n, .int .i64 x.e.t.hd.seq, .int .i64 lf]] W fun e w' => e = .returned (.int .i64 nv) ∧ Below W.heap.size W w') := fun W => by
    have := rnewer_any t.hd (headD x.e now) (by unfold In64; omega) (by show In64 (leftD x.e now); rw [hlf]; exact hli) W
    rw [hnv] at this
    unfold headD at this
    rw [hlf] at this
    exact this
  have hd : decide (0 < nv) = true := decide_eq_true hnn
  have HIE : Hid (insD K (enD t now) = K.set k (enD t now)) := pl_set h.inv.asc (Prod.ext hk hpb)
  have HINV := Lib.hid hinv
  have HRDT := Lib.hid hrd
  have hsum : -9223372036854775808 ≤ now + t.hd.life ∧ now + t.hd.life ≤ 9223372036854775807 := by unfold momD at hmm; omega
  have hwr : IntKind.i64.wrap (now + t.hd.life) = now + t.hd.life := IntWalk.i64_in _ (by omega)
  clear h hrd hr hm hk hpb hrow hgg hy hrh hmm hin hlf hli hnv hnn hinv
  go_enter Tryz.func22, Tryz.ntmps22
  go_wp2_with (first
    | (refine wpList_load_arr rfl 39 (.tmp 4) rfl w.heap.size rfl HS1.out.tb Tryz.underlying39 rfl sizeV rfl ?_)
    | (go_at_call 39; refine (HRI.out _ HS1.out.b).mono ?_; rintro e w2 ⟨rfl, hb⟩; have HS2 := Lib.hid (HS1.out.below hb); have q0 : w2.cell? ⟨w.heap.size, 0, none⟩ = some (.int .i64 t.hd.id.d) := HS2.out.tb.cell 0; have q1 : w2.cell? ⟨w.heap.size, 1, none⟩ = some (.int .i64 t.hd.id.o) := HS2.out.tb.cell 1; have q2 : w2.cell? ⟨w.heap.size, 2, none⟩ = some (.int .i64 t.hd.id.k) := HS2.out.tb.cell 2; have q3 : w2.cell? ⟨w.heap.size, 3, none⟩ = some (.int .i64 t.hd.id.n) := HS2.out.tb.cell 3; have HB12 := Lib.hid hb; clear hb)
    | (go_at_call 30; refine (HMO.out _).mono ?_; rintro e w3 ⟨rfl, h3⟩; have h3 := h3.symm; subst h3)
    | (go_at_call 40; refine (HPL.out _ HS2.out).mono ?_; rintro e w4 ⟨rfl, hb⟩; have HS4 := Lib.hid ((HS2.out.below hb).below (Below.refl _ _).drew); have HR4 := Lib.hid (row_below HROW.out HB12.out (hb.trans (Below.refl _ _).drew)); clear hb))
  go_region_held (fun W => W.cell? ⟨rb, 1, none⟩ = some (.slice (some ⟨g, o, none⟩) n c) ∧ W.cell? ⟨g, o + k * 11, none⟩ = some (.int .i64 x.e.t.hd.id.d) ∧ W.cell? ⟨g, o + k * 11 + 1, none⟩ = some (.int .i64 x.e.t.hd.id.o) ∧ W.cell? ⟨g, o + k * 11 + 2, none⟩ = some (.int .i64 x.e.t.hd.id.k) ∧ W.cell? ⟨g, o + k * 11 + 3, none⟩ = some (.int .i64 x.e.t.hd.id.n) ∧ W.cell? ⟨g, o + k * 11 + 4, none⟩ = some (.int .i64 x.e.t.hd.seq) ∧ W.cell? ⟨g, o + k * 11 + 5, none⟩ = some (.int .i64 x.e.t.hd.life) ∧ W.cell? ⟨g, o + k * 11 + 6, none⟩ = some (.int .i64 x.e.t.level) ∧ W.cell? ⟨g, o + k * 11 + 7, none⟩ = some (.bool x.e.t.over) ∧ W.cell? ⟨g, o + k * 11 + 8, none⟩ = some (.slice x.s.ea x.e.t.es.length x.s.ec) ∧ W.cell? ⟨g, o + k * 11 + 9, none⟩ = some (.slice x.s.ra x.e.t.rs.length x.s.rc) ∧ W.cell? ⟨g, o + k * 11 + 10, none⟩ = some (.int .i64 x.e.exp) ∧ W.cell? ⟨w.heap.size, 0, none⟩ = some (.int .i64 t.hd.id.d) ∧ W.cell? ⟨w.heap.size, 1, none⟩ = some (.int .i64 t.hd.id.o) ∧ W.cell? ⟨w.heap.size, 2, none⟩ = some (.int .i64 t.hd.id.k) ∧ W.cell? ⟨w.heap.size, 3, none⟩ = some (.int .i64 t.hd.id.n) ∧ W.cell? ⟨w.heap.size, 4, none⟩ = some (.int .i64 t.hd.seq) ∧ W.cell? ⟨w.heap.size, 5, none⟩ = some (.int .i64 t.hd.life)) (first | exact put_keep HS4.out HR4.out.1 | exact put_keep HS5.out HR5.out.1 | exact put_keep HS6.out HR6.out.1)
    (first
      | (go_at_call 31; (with_reducible refine (HT.out _ HS4.out.b).mono ?_); rintro e w5 ⟨s1, rfl, hb⟩; have HS5 := Lib.hid (HS4.out.below hb); have HR5 := Lib.hid (row_below1 HR4.out hb); clear hb)
      | (go_at_call 41; (with_reducible refine (HNW.out _).mono ?_); rintro e w6 ⟨rfl, hb⟩; have HS6 := Lib.hid (HS5.out.below hb); have HR6 := Lib.hid (row_below1 HR5.out hb); clear hb))
  go_wp2
  have HS7 := Lib.hid (HS6.out.below (Below.refl _ _).drew)
  have HR7 := Lib.hid (row_below1 HR6.out (Below.refl _ _).drew)
  have hb67 := HS7.out.b
  have PS : Hid (SetK w0 w6.drew rb room K k g o n c) := set_k HS7.out.r HR7.out.1
  obtain ⟨w7, hw7⟩ : ∃ W, w6.drew = W := ⟨_, rfl⟩
  refine region_tail 13 (by kernel_rfl) (by kernel_rfl) w7 hw7 ?_
  rw [hw7] at HS7 HR7 PS hb67
  clear hw7
  obtain ⟨rfl, hkn, hth⟩ := PS.out.facts
  have z1 : w7.cell? ⟨rb, 1, none⟩ = some (.slice (some ⟨g, 0, none⟩) n c) := HR7.out.1.c
  have l0 : w7.cell? ⟨w.heap.size, 0, none⟩ = some (.int .i64 t.hd.id.d) := HS7.out.tb.cell 0
  have l1 : w7.cell? ⟨w.heap.size, 1, none⟩ = some (.int .i64 t.hd.id.o) := HS7.out.tb.cell 1
  have l2 : w7.cell? ⟨w.heap.size, 2, none⟩ = some (.int .i64 t.hd.id.k) := HS7.out.tb.cell 2
  have l3 : w7.cell? ⟨w.heap.size, 3, none⟩ = some (.int .i64 t.hd.id.n) := HS7.out.tb.cell 3
  have l4 : w7.cell? ⟨w.heap.size, 4, none⟩ = some (.int .i64 t.hd.seq) := HS7.out.tb.cell 4
  have l5 : w7.cell? ⟨w.heap.size, 5, none⟩ = some (.int .i64 t.hd.life) := HS7.out.tb.cell 5
  have l6 : w7.cell? ⟨w.heap.size, 6, none⟩ = some (.int .i64 t.level) := HS7.out.tb.cell 6
  have l7 : w7.cell? ⟨w.heap.size, 7, none⟩ = some (.bool t.over) := HS7.out.tb.cell 7
  have l8 : w7.cell? ⟨w.heap.size, 8, none⟩ = some (.slice s.ea t.es.length s.ec) := HS7.out.tb.cell 8
  have l9 : w7.cell? ⟨w.heap.size, 9, none⟩ = some (.slice s.ra t.rs.length s.rc) := HS7.out.tb.cell 9
  have hk2 : (k : Int) < n := by omega
  have HTH := Lib.hid hth
  have HB7 := Lib.hid hb67
  clear hth hb67 q0 q1 q2 q3
  simp only [List.take_succ_cons, List.take_zero, List.drop_succ_cons, List.drop_zero]
  repeat still_step
  try refine wpStill_nil ?_
  go_wp2_with (first
    | (refine wpList_store_mid rfl 75 (.tmp 60) (.tmp 59) rfl g (k * 11) (cellsK ⟨enD t now, s⟩).toArray rfl rfl HTH.out sizeN (cellsK_all _) ?_; have Q8 : Hid (RefD w0 (w7.setCells g (k * 11) (cellsK ⟨enD t now, s⟩)) rb room (insD K (enD t now)) ∧ KeepR w7 (w7.setCells g (k * 11) (cellsK ⟨enD t now, s⟩))) := (by rw [HIE.out] at HINV ⊢; exact PS.out.put ⟨enD t now, s⟩ HRDT.out HINV.out); obtain ⟨W8, hW8⟩ : ∃ W8, w7.setCells g (k * 11) (cellsK ⟨enD t now, s⟩) = W8 := ⟨_, rfl⟩; rw [show w7.setCells g (k * 11) (cellsK ⟨enD t now, s⟩).toArray.toList = W8 from hW8]; rw [hW8] at Q8; clear hW8))
  go_ret2
  exact ⟨rfl, Q8.out.1, (KeepR.of_below HB7.out).trans Q8.out.2⟩
end Go.Proofs.YtpaooddmgcekhaaGreat.ti

/-
  THE DOCUMENT'S Put: what is new.
-/
namespace Go.Proofs.YtpaooddmgcekhaaGreat.ti
set_option linter.unusedSimpArgs false
set_option linter.unusedVariables false
open Go.RowKit
theorem rd_new (W : World) (t : TiV) (s : Sl2) (now : Int) : RdE 11 cellsK (W.alloc (.cells #[.int .i64 t.hd.id.d, .int .i64 t.hd.id.o, .int .i64 t.hd.id.k, .int .i64 t.hd.id.n, .int .i64 t.hd.seq, .int .i64 t.hd.life, .int .i64 t.level, .bool t.over, .slice s.ea t.es.length s.ec, .slice s.ra t.rs.length s.rc, .int .i64 (now + t.hd.life)] 75)) (some ⟨W.heap.size, 0, none⟩) [⟨enD t now, s⟩] := fun j p hj => by
  cases j with
  | succ j => simp at hj
  | zero =>
    cases hj
    refine ⟨W.heap.size, 0, rfl, by simp, ?_⟩
    have := (Arr.new W 75 (cellsK ⟨enD t now, s⟩)).range
    exact this
set_option maxHeartbeats 12800000 in
set_option maxRecDepth 100000 in
theorem rput_ins {w0 w : World} {rb : Nat} {room : Int} {K : List EnT} (h : RefD w0 w rb room K) (t : TiV) (s : Sl2) (hrd : Rd2 w0 t s) (now : Int) (hlen : K.length ≤ 4096) (hr : rightV t = true) (hm : decide (momD now) = true) (hpb : (plD K t.hd.id).2 = false) (hfull : ¬ room ≤ K.length) (hi : InvD room (insD K (enD t now))) : Calls Tryz.prog 22 #[.pointer (some ⟨rb, 0, none⟩), .agg #[.int .i64 t.hd.id.d, .int .i64 t.hd.id.o, .int .i64 t.hd.id.k, .int .i64 t.hd.id.n, .int .i64 t.hd.seq, .int .i64 t.hd.life, .int .i64 t.level, .bool t.over, .slice s.ea t.es.length s.ec, .slice s.ra t.rs.length s.rc], .int .i64 now] w fun e w' => e = .returned (.tuple #[.int .i64 1, .int .i64 0]) ∧ RefD w0 w' rb room (insD K (enD t now)) ∧ KeepR w w' := by
  have HS1 := Lib.hid (put_box (t := t) (s := s) h)
  obtain ⟨w1, hw1⟩ : ∃ w1, w.alloc (.cells #[.int .i64 t.hd.id.d, .int .i64 t.hd.id.o, .int .i64 t.hd.id.k, .int .i64 t.hd.id.n, .int .i64 t.hd.seq, .int .i64 t.hd.life, .int .i64 t.level, .bool t.over, .slice s.ea t.es.length s.ec, .slice s.ra t.rs.length s.rc] 39) = w1 := ⟨_, rfl⟩
  rw [hw1] at HS1
  have HRI : Hid (∀ W, Below w.heap.size w W → Calls Tryz.prog 39 #[.agg (cellsV t s).toArray] W fun e w' => e = .returned (.bool true) ∧ Below W.heap.size W w') := fun W b => by
    have := rright3 t s hrd W (h.bel.trans (b.mono h.bel.size))
    rwa [hr] at this
  have HMO : Hid (∀ W, Calls Tryz.prog 30 #[.int .i64 now] W fun e w' => e = .returned (.bool true) ∧ w' = W) := fun W => by
    have := rmom_any now W
    rwa [hm] at this
  obtain ⟨k, hk⟩ : ∃ k, (plD K t.hd.id).1 = k := ⟨_, rfl⟩
  have HPL : Hid (∀ W, PbS w0 w rb room K t s W → Calls Tryz.prog 40 #[.pointer (some ⟨rb, 0, none⟩), .agg #[.int .i64 t.hd.id.d, .int .i64 t.hd.id.o, .int .i64 t.hd.id.k, .int .i64 t.hd.id.n]] W fun e w' => e = .returned (.tuple #[.int .i64 k, .bool false]) ∧ Below W.heap.size W w') := fun W p => by
    have := rplace_any p.r t.hd.id
    rwa [hk, hpb] at this
  have HIE : Hid (insD K (enD t now) = K.take k ++ [enD t now] ++ K.drop k) := pl_ins h.inv.asc (Prod.ext hk hpb)
  have HINV := Lib.hid hi
  have hkl := plD_le K t.hd.id
  obtain ⟨v, L, hbs, how, hLK, hrd0⟩ := HS1.out.r.has
  obtain ⟨a, c, rfl, hlc, hcm⟩ := how.shape
  have hform := how.form
  have hnil := (own_slice how).2.2.2
  obtain ⟨n, hn⟩ : ∃ n, L.length = n := ⟨_, rfl⟩
  have hKn : K.length = n := by rw [← hLK, List.length_map]; exact hn
  rw [hk, hKn] at hkl
  rw [hKn] at hlen hfull
  rw [hn] at hlc
  have ha : a = none ∨ ∃ g, a = some ⟨g, 0, none⟩ := by
    rcases hform with ⟨e, _⟩ | ⟨g, cap, e, _⟩
    · injection e with e1; exact .inl e1
    · injection e with e1; exact .inr ⟨g, e1⟩
  obtain ⟨ad1, hsl1, hp1⟩ := slice_headN a n c k hkl hlc hnil
  obtain ⟨ad2, hsl2, hp2⟩ := slice_tailO a ha n c k hkl hlc hnil
  have HP1 := Lib.hid hp1
  have HP2 := Lib.hid hp2
  have HN := Lib.hid hn
  have HLK := Lib.hid hLK
  have HRD := Lib.hid hrd0
  have HRDT := Lib.hid hrd
  have HRW : Hid (RdE 11 cellsK w1 a L) := kindN.rd how
  have hrb1 : rb < w1.heap.size := (Array.getElem?_eq_some_iff.1 hbs).1
  have hz0 : w1.cell? ⟨rb, 0, none⟩ = some (.int .i64 room) := by simp [World.cell?, hbs]
  have hz1 : w1.cell? ⟨rb, 1, none⟩ = some (.slice a n c) := by rw [← hn]; simp [World.cell?, hbs]
  have HZ := Lib.hid (And.intro hz0 hz1)
  have hd : decide (room ≤ (n : Int)) = false := decide_eq_false hfull
  have HTK : Hid ((L.take k).length = k) := by unfold Hid; rw [List.length_take, hn]; omega
  have HDL : Hid ((L.drop k).length = n - k) := by unfold Hid; rw [List.length_drop, hn]
  have hrh := right_head hr
  have hmm := of_decide_eq_true hm
  have hsum : -9223372036854775808 ≤ now + t.hd.life ∧ now + t.hd.life ≤ 9223372036854775807 := by unfold momD at hmm; omega
  have hwr : IntKind.i64.wrap (now + t.hd.life) = now + t.hd.life := IntWalk.i64_in _ (by omega)
  clear h hrd hr hm hk hpb hfull hn hi hbs how hLK hrd0 hcm hform hnil hKn ha hp1 hp2 hz0 hz1 hrh hmm
  go_enter Tryz.func22, Tryz.ntmps22
  go_wp2_with (first
    | (refine wpList_load_arr rfl 39 (.tmp 4) rfl w.heap.size rfl HS1.out.tb Tryz.underlying39 rfl sizeV rfl ?_)
    | (go_at_call 39; refine (HRI.out _ HS1.out.b).mono ?_; rintro e w2 ⟨rfl, hb⟩; have HS2 := Lib.hid (HS1.out.below hb); have q0 : w2.cell? ⟨w.heap.size, 0, none⟩ = some (.int .i64 t.hd.id.d) := HS2.out.tb.cell 0; have q1 : w2.cell? ⟨w.heap.size, 1, none⟩ = some (.int .i64 t.hd.id.o) := HS2.out.tb.cell 1; have q2 : w2.cell? ⟨w.heap.size, 2, none⟩ = some (.int .i64 t.hd.id.k) := HS2.out.tb.cell 2; have q3 : w2.cell? ⟨w.heap.size, 3, none⟩ = some (.int .i64 t.hd.id.n) := HS2.out.tb.cell 3; have HB12 := Lib.hid hb; clear hb)
    | (go_at_call 30; refine (HMO.out _).mono ?_; rintro e w3 ⟨rfl, h3⟩; have h3 := h3.symm; subst h3)
    | (go_at_call 40; refine (HPL.out _ HS2.out).mono ?_; rintro e w4 ⟨rfl, hb⟩; have hbb := HB12.out.trans (hb.mono HB12.out.size); have HS5 := Lib.hid ((HS2.out.below hb).below (Below.refl _ _).drew); have z0 : w4.cell? ⟨rb, 0, none⟩ = some (.int .i64 room) := (hbb.cell (p := ⟨rb, 0, none⟩) hrb1).trans HZ.out.1; have z1 : w4.cell? ⟨rb, 1, none⟩ = some (.slice a n c) := (hbb.cell (p := ⟨rb, 1, none⟩) hrb1).trans HZ.out.2; have z0' : w4.drew.cell? ⟨rb, 0, none⟩ = some (.int .i64 room) := z0; have z1' : w4.drew.cell? ⟨rb, 1, none⟩ = some (.slice a n c) := z1; have HRW5 := Lib.hid (HRW.out.below (hbb.trans (Below.refl _ _).drew)); have hrb5 : rb < w4.drew.heap.size := Nat.lt_of_lt_of_le hrb1 hbb.size; clear hb hbb))
  go_region
  all_goals clear z0 z1 z0' 
  all_goals generalize w4.drew = w5 at HS5 z1' HRW5 hrb5 ⊢
  all_goals go_wp2_with (first
    | (refine kindN.wp_build0 rfl rfl ?_; have y1 : (w5.alloc (.cells #[] 75)).cell? ⟨rb, 1, none⟩ = some (.slice a n c) := (((Below.refl _ w5).alloc (Nat.le_refl _) _).cell (p := ⟨rb, 1, none⟩) hrb5).trans z1')
    | (at_builtin; refine kindN.wp_append rfl (.tmp 72) (.tmp 78) rfl w5.heap.size _ [] rfl (kindN.own0 w5) ad1 (L.take k) k c rfl HTK.out.symm (HP1.out _ _ (HRW5.out.below ((Below.refl _ w5).alloc (Nat.le_refl _) _))) (by rw [HTK.out]; unfold maxLen; simp; omega) (by rw [HTK.out]; simp; omega) (by simp) ?_; intro A6 n6 c6 w6 hn6 HO6 hb6 hg6; have e6 : k = n6 := (hn6.trans HTK.out).symm; subst e6; have hb66 := ((Below.refl _ w5).alloc (Nat.le_refl _) (.cells #[] 75)).trans hb6; have HB6 := Lib.hid hb66; have HS6 := Lib.hid (HS5.out.below hb66); have HOW6 := Lib.hid HO6; have l6 : w6.cell? ⟨w.heap.size, 5, none⟩ = some (.int .i64 t.hd.life) := HS6.out.tb.cell 5; have HTB6 : Hid (Arr w6 w.heap.size 39 [.int .i64 t.hd.id.d, .int .i64 t.hd.id.o, .int .i64 t.hd.id.k, .int .i64 t.hd.id.n, .int .i64 t.hd.seq, .int .i64 t.hd.life, .int .i64 t.level, .bool t.over, .slice s.ea t.es.length s.ec, .slice s.ra t.rs.length s.rc]) := HS6.out.tb; clear hn6 HO6 hb6 hg6 hb66 y1)
    | (refine wpList_load_arr rfl 39 (.tmp 4) rfl w.heap.size rfl HTB6.out Tryz.underlying39 rfl sizeV rfl ?_)
    | (at_builtin; refine kindN.wp_append rfl (.tmp 80) (.tmp 88) rfl w5.heap.size _ _ rfl (HOW6.out.below ((Below.refl _ w6).alloc (Nat.le_refl _) (.cells #[.int .i64 t.hd.id.d, .int .i64 t.hd.id.o, .int .i64 t.hd.id.k, .int .i64 t.hd.id.n, .int .i64 t.hd.seq, .int .i64 t.hd.life, .int .i64 t.level, .bool t.over, .slice s.ea t.es.length s.ec, .slice s.ra t.rs.length s.rc, .int .i64 (now + t.hd.life)] 75))) (some ⟨w6.heap.size, 0, none⟩) [⟨enD t now, s⟩] 1 1 rfl rfl (rd_new w6 t s now) (by rw [List.nil_append, HTK.out]; unfold maxLen; simp; omega) (by rw [List.nil_append, HTK.out]; simp; omega) (by have := HB6.out.size; simp; omega) ?_; intro A7 n7 c7 w7 hn7 HO7 hb7 hg7; have hb77 := (HB6.out.alloc HB6.out.size (.cells #[.int .i64 t.hd.id.d, .int .i64 t.hd.id.o, .int .i64 t.hd.id.k, .int .i64 t.hd.id.n, .int .i64 t.hd.seq, .int .i64 t.hd.life, .int .i64 t.level, .bool t.over, .slice s.ea t.es.length s.ec, .slice s.ra t.rs.length s.rc, .int .i64 (now + t.hd.life)] 75)).trans hb7; have HB7 := Lib.hid hb77; have HOW7 := Lib.hid HO7; have y7 : w7.cell? ⟨rb, 1, none⟩ = some (.slice a n c) := (hb77.cell (p := ⟨rb, 1, none⟩) hrb5).trans z1'; clear hn7 HO7 hb7 hg7 hb77)
    | (at_builtin; refine kindN.wp_append rfl (.tmp 91) (.tmp 97) rfl w5.heap.size _ _ rfl HOW7.out ad2 (L.drop k) (n - k) (c - k) rfl HDL.out.symm (HP2.out _ _ HN.out (HRW5.out.below HB7.out)) (by rw [HDL.out, List.nil_append, List.length_append, HTK.out]; unfold maxLen; simp; omega) (by rw [HDL.out, List.nil_append, List.length_append, HTK.out]; simp; omega) HB7.out.size ?_; intro A8 n8 c8 w8 hn8 HO8 hb8 hg8; have hb88 := HB7.out.trans hb8; have HB8 := Lib.hid hb88; have HOW8 := Lib.hid HO8; have y8 : w8.cell? ⟨rb, 1, none⟩ = some (.slice a n c) := (hb88.cell (p := ⟨rb, 1, none⟩) hrb5).trans z1'; have HS8 := Lib.hid (HS5.out.below hb88); obtain ⟨v8, L8, hbs8, _⟩ := HS8.out.r.has; have f8 : w8.frozen? ⟨rb, 1, none⟩ = false := (by simp [World.frozen?, hbs8]); have HBS8 := Lib.hid hbs8; clear hbs8 hn8 HO8 hb8 hg8 hb88))
  all_goals go_ret2
  all_goals refine ⟨rfl, ?_, (KeepR.of_below HS8.out.b).trans (KeepR.base HBS8.out _ _)⟩
  all_goals refine HS8.out.r.turn (HOW8.out.mono HS5.out.r.bel.size) (fun e => ?_) ?_ (fun z hz => ?_) HINV.out
  all_goals first
    | (have h1 := (World.ownsRow.lt HOW8.out rb e).1; omega)
    | (rw [List.nil_append, List.map_append, List.map_append, List.map_take, List.map_drop, HLK.out]; exact HIE.out.symm)
    | (rw [List.nil_append] at hz; rcases List.mem_append.1 hz with q | q; (rcases List.mem_append.1 q with q | q; exact HRD.out z (List.mem_of_mem_take q); (rw [List.mem_singleton] at q; subst q; exact HRDT.out)); exact HRD.out z (List.mem_of_mem_drop q))
end Go.Proofs.YtpaooddmgcekhaaGreat.ti

/-
  THE DOCUMENT'S Put, whole; both bases side by side.
-/
namespace Go.Proofs.YtpaooddmgcekhaaGreat.ti
set_option linter.unusedSimpArgs false
set_option linter.unusedVariables false
open Go.RowKit
theorem rput_any {w0 w : World} {rb : Nat} {room : Int} {K : List EnT} (h : RefD w0 w rb room K) (t : TiV) (s : Sl2) (hrd : Rd2 w0 t s) (now : Int) (hlen : K.length ≤ 4096) :
    Calls Tryz.prog 22 #[.pointer (some ⟨rb, 0, none⟩), aggV t s, .int .i64 now] w fun e w' => e = .returned (.tuple #[.int .i64 (putD room K t now).1, .int .i64 (putD room K t now).2.1]) ∧ RefD w0 w' rb room (putD room K t now).2.2 ∧ KeepR w w' := by
  have hpi := h.inv.put t now
  have hpl := plD_find h.inv.asc t.hd.id
  cases hr : rightV t with
  | false =>
    have e : putD room K t now = (0, 1, K) := by unfold putD; rw [if_pos (fun q => by rw [hr] at q; cases q.1)]
    rw [e]
    exact rput_wrong h t s hrd now hr
  | true =>
    by_cases hm : momD now
    · cases hf : findD K t.hd.id with
      | none =>
        have hpb : (plD K t.hd.id).2 = false := by rw [hpl.1, hf]; rfl
        by_cases hfull : room ≤ K.length
        · have e : putD room K t now = (0, 3, K) := by unfold putD; rw [if_neg (fun q => q ⟨hr, hm⟩), hf]; dsimp only; rw [if_pos hfull]
          rw [e]
          exact rput_full h t s hrd now hr (decide_eq_true hm) hpb hfull
        · have e : putD room K t now = (1, 0, insD K (enD t now)) := by unfold putD; rw [if_neg (fun q => q ⟨hr, hm⟩), hf]; dsimp only; rw [if_neg hfull]
          rw [e] at hpi ⊢
          exact rput_ins h t s hrd now hlen hr (decide_eq_true hm) hpb hfull hpi
      | some y =>
        have hpb : (plD K t.hd.id).2 = true := by rw [hpl.1, hf]; rfl
        have hy := hpl.2 y hf
        by_cases hn : 0 < newT t.hd (headD y now)
        · have e : putD room K t now = (2, 0, insD K (enD t now)) := by unfold putD; rw [if_neg (fun q => q ⟨hr, hm⟩), hf]; dsimp only; rw [if_pos hn]
          rw [e] at hpi ⊢
          exact rput_new h t s hrd now hr (decide_eq_true hm) hpb hy rfl hn hpi
        · have e : putD room K t now = (newT t.hd (headD y now), 0, K) := by unfold putD; rw [if_neg (fun q => q ⟨hr, hm⟩), hf]; dsimp only; rw [if_neg hn]
          rw [e]
          exact rput_old h t s hrd now hr (decide_eq_true hm) hpb hy rfl hn
    · have e : putD room K t now = (0, 1, K) := by unfold putD; rw [if_pos (fun q => hm q.2)]
      rw [e]
      exact rput_late h t s hrd now hr (decide_eq_false hm)
/-- The document's base behind a deed of the program's. -/
theorem RefD.grown {w0 W W' : World} {rb mb : Nat} {room : Int} {K : List EnT} (h : RefD w0 W rb room K) (hg : W.grownBy W' (some mb)) (hm : w0.heap.size ≤ mb) (hmap : ∃ es ck, W.heap[mb]? = some (.map es ck)) : RefD w0 W' rb room K := by
  obtain ⟨v, L, h1, h2, h3, h4⟩ := h.has
  obtain ⟨es, ck, hmb⟩ := hmap
  have hne : ∀ (g : Nat) (cs : Array Value) (T : TypeId) (fr : Nat × Nat), W.heap[g]? = some (.cells cs T fr) → some g ≠ some mb := fun g cs T fr hg2 e => by
    cases e
    rw [hmb] at hg2
    cases hg2
  refine ⟨⟨v, L, (hg.block rb (Array.getElem?_eq_some_iff.1 h1).1 (hne _ _ _ _ h1)).trans h1, h2.same fun g hgv => ?_, h3, h4⟩, h.hb, h.bel.grown hg h.bel.size (fun k e => by cases e; exact hm), h.inv⟩
  obtain ⟨cur, hc⟩ := h2.block hgv
  exact hg.block g (Array.getElem?_eq_some_iff.1 hc).1 (hne _ _ _ _ hc)
/-- The program's base behind a deed of the document's. -/
theorem ProgD.keepR {W W' : World} {n0 pb mb : Nat} {room : Int} {K : List EnT} (h : ProgD W n0 pb mb room K) (k : KeepR W W') : ProgD W' n0 pb mb room K := h.keep fun j o hj hs => k.at' j o hj fun hr => by
  cases o with
  | cells cs T fr =>
    rcases hr with rfl | rfl <;> rcases hs with h | h | h <;> cases h
  | map es ck => exact hr
  | _ => exact hs
end Go.Proofs.YtpaooddmgcekhaaGreat.ti

namespace Go.Proofs.YtpaooddmgcekhaaGreat.ti
set_option linter.unusedSimpArgs false
set_option linter.unusedVariables false
open Go.RowKit
theorem kindJ : KindE 65 33 4 32 (.agg #[.int .i64 0, .int .i64 0, .int .i64 0, .int .i64 0]) cellsI := ⟨by kernel_rfl, by kernel_rfl, rfl, by decide, fun _ => rfl, fun x u hu => by simp [cellsI] at hu; rcases hu with rfl | rfl | rfl | rfl <;> rfl⟩
theorem OwnE.apartR {E F : Type} {T U : TypeId} {sz tz : Nat} {enc : E → List Value} {fnc : F → List Value} {W W' : World} {b b2 : Nat} {v v2 : Value} {l : List E} {m : List F} (h : OwnE T sz enc W b v l) (h2 : OwnE U tz fnc W b2 v2 m) (hne : T ≠ U) (hg : W.grownBy W' v2.ownBlock) : OwnE T sz enc W' b v l :=
  h.same fun g hgv => by
    obtain ⟨cur, hc⟩ := h.block hgv
    refine hg.block g (Array.getElem?_eq_some_iff.1 hc).1 fun e => ?_
    obtain ⟨cur2, hc2⟩ := h2.block e.symm
    rw [hc] at hc2
    injection hc2 with h3
    injection h3 with _ h4 _
    exact hne h4
theorem rd_oneJ {E : Type} {sl T : TypeId} {sz bytes : Nat} {z : Value} {enc : E → List Value} (K : KindE sl T sz bytes z enc) (W : World) (x : E) : RdE sz enc (W.alloc (.cells (enc x).toArray T)) (some ⟨W.heap.size, 0, none⟩) [x] := fun j p hj => by
  match j, hj with
  | 0, hj =>
    simp at hj; subst hj
    refine ⟨W.heap.size, 0, rfl, by simp, fun i v hv => ?_⟩
    have := (Arr.new W T (enc x)).cell i
    rw [show 0 + 0 * sz + i = i by omega, this]
    exact hv
  | j + 1, hj => simp at hj
/-- What Age has gathered. -/
structure AgeRS (w0 w W : World) (K : List EnT) (now : Int) (v1 v2 : Value) (ids : List TId) (R : List EnK) : Prop where
  o1 : OwnE 33 4 cellsI W w.heap.size v1 ids
  o2 : OwnE 75 11 cellsK W w.heap.size v2 R
  e1 : ids = (overD K now).map EnT.id
  e2 : R.map EnK.e = keptD K now
  rd : ∀ x ∈ R, Rd2 w0 x.e.t x.s
  b : Below w.heap.size w W
theorem AgeRS.below {w0 w W W' : World} {K : List EnT} {now : Int} {v1 v2 : Value} {ids : List TId} {R : List EnK} (h : AgeRS w0 w W K now v1 v2 ids R) (k : Below W.heap.size W W') : AgeRS w0 w W' K now v1 v2 ids R := ⟨h.o1.below k, h.o2.below k, h.e1, h.e2, h.rd, h.b.trans (k.mono h.b.size)⟩
theorem AgeRS.len {w0 w W : World} {K : List EnT} {now : Int} {v1 v2 : Value} {ids : List TId} {R : List EnK} (h : AgeRS w0 w W K now v1 v2 ids R) : ids.length ≤ K.length ∧ R.length ≤ K.length := by
  constructor
  · rw [h.e1, List.length_map]; exact List.length_filter_le _ _
  · have := congrArg List.length h.e2
    rw [List.length_map] at this
    rw [this]; exact List.length_filter_le _ _
theorem over_takeR {K : List EnT} {i : Nat} {y : EnT} (h : K[i]? = some y) (now : Int) : overD (K.take (i + 1)) now = (if y.exp ≤ now then overD (K.take i) now ++ [y] else overD (K.take i) now) ∧ keptD (K.take (i + 1)) now = (if y.exp ≤ now then keptD (K.take i) now else keptD (K.take i) now ++ [y]) := by
  unfold overD keptD
  rw [List.take_add_one, h, List.filter_append, List.filter_append]
  by_cases hy : y.exp ≤ now <;> simp [hy]
set_option maxHeartbeats 3200000 in
set_option maxRecDepth 100000 in
theorem rage_any {w0 w : World} {rb : Nat} {room : Int} {K : List EnT} (h : RefD w0 w rb room K) (hlen : K.length ≤ 4096) (now : Int) :
    Calls Tryz.prog 26 #[.pointer (some ⟨rb, 0, none⟩), .int .i64 now] w fun e w' => ∃ v, e = .returned v ∧ OwnE 33 4 cellsI w' w.heap.size v (ageD K now).1 ∧ RefD w0 w' rb room (ageD K now).2 ∧ KeepR w w' := by
  by_cases hm : momD now
  · have HMO : Hid (∀ W, Calls Tryz.prog 30 #[.int .i64 now] W fun e w' => e = .returned (.bool true) ∧ w' = W) := fun W => by
      have := rmom_any now W
      rwa [decide_eq_true hm] at this
    have HAG : Hid (ageD K now = ((overD K now).map EnT.id, keptD K now)) := by unfold Hid ageD; rw [if_pos hm]
    have HINV : Hid (InvD room (ageD K now).2) := h.inv.age now
    have HD := Lib.hid h
    obtain ⟨n, hn⟩ : ∃ n, K.length = n := ⟨_, rfl⟩
    have HN := Lib.hid hn
    obtain ⟨a, c, hz0, hz1⟩ := ref_cells h
    rw [hn] at hz1 hlen
    have hrb : rb < w.heap.size := (Array.getElem?_eq_some_iff.1 h.has.choose_spec.choose_spec.1).1
    have HZ1 := Lib.hid hz1
    clear h hm hn hz0 hz1
    go_enter Tryz.func26, Tryz.ntmps26
    go_wp2_with (go_at_call 30; refine (HMO.out _).mono ?_; rintro e w3 ⟨rfl, h3⟩; have h3 := h3.symm; subst h3)
    go_loopw [5, 7, 8] (fun ov rv iv wr => ∃ (i : Nat) (ids : List TId) (R : List EnK) (A1 : Option Addr) (n1 c1 : Nat) (A2 : Option Addr) (n2 c2 : Nat), i ≤ n ∧ iv = .int .i64 i ∧ ov = .slice A1 n1 c1 ∧ rv = .slice A2 n2 c2 ∧ Hid (AgeRS w0 w wr (K.take i) now (.slice A1 n1 c1) (.slice A2 n2 c2) ids R)) (fun _ _ iv _ => n - (intOf iv).toNat)
    case atStart => exact ⟨0, [], [], none, 0, 0, none, 0, 0, by omega, rfl, rfl, rfl, ⟨OwnE.nil _ _, OwnE.nil _ _, rfl, rfl, fun x hx => by simp at hx, Below.refl _ _⟩⟩
    case round =>
      obtain ⟨i, ids, R, A1, n1, c1, A2, n2, c2, hin, rfl, rfl, rfl, HS⟩ := hrel
      have z1 : wr.cell? ⟨rb, 1, none⟩ = some (.slice a n c) := (HS.out.b.cell (p := ⟨rb, 1, none⟩) hrb).trans HZ1.out
      have hrb2 : rb < wr.heap.size := Nat.lt_of_lt_of_le hrb HS.out.b.size
      by_cases hlt : i < n
      · obtain ⟨y, hy⟩ : ∃ y, K[i]? = some y := ⟨_, List.getElem?_eq_getElem (by have := HN.out; omega)⟩
        obtain ⟨g, o, n', c', x, hrow, rfl, hg, _⟩ := row_at (HD.out.below HS.out.b) hy
        have hz2 := hrow.c
        rw [z1] at hz2
        cases hz2
        have hr := hrow.rg
        have r0 : wr.cell? ⟨g, o + i * 11, none⟩ = some (.int .i64 x.e.t.hd.id.d) := hr 0 _ rfl
        have r1 : wr.cell? ⟨g, o + i * 11 + 1, none⟩ = some (.int .i64 x.e.t.hd.id.o) := hr 1 _ rfl
        have r2 : wr.cell? ⟨g, o + i * 11 + 2, none⟩ = some (.int .i64 x.e.t.hd.id.k) := hr 2 _ rfl
        have r3 : wr.cell? ⟨g, o + i * 11 + 3, none⟩ = some (.int .i64 x.e.t.hd.id.n) := hr 3 _ rfl
        have r10 : wr.cell? ⟨g, o + i * 11 + 10, none⟩ = some (.int .i64 x.e.exp) := hr 10 _ rfl
        have HRG : Hid (wr.rangeAt g (o + i * 11) [.int .i64 x.e.t.hd.id.d, .int .i64 x.e.t.hd.id.o, .int .i64 x.e.t.hd.id.k, .int .i64 x.e.t.hd.id.n, .int .i64 x.e.t.hd.seq, .int .i64 x.e.t.hd.life, .int .i64 x.e.t.level, .bool x.e.t.over, .slice x.s.ea x.e.t.es.length x.s.ec, .slice x.s.ra x.e.t.rs.length x.s.rc, .int .i64 x.e.exp]) := hr
        have HRD := Lib.hid hrow.rd
        have HTK := Lib.hid (over_takeR hy now)
        have HLE : Hid (ids.length ≤ 4096 ∧ R.length ≤ 4096) := by have h1 := HS.out.len; rw [List.length_take] at h1; exact ⟨by omega, by omega⟩
        have hlt2 : (i : Int) < n := by omega
        clear hrow hr hy hin
        by_cases hov : x.e.exp ≤ now
        · have HO := Lib.hid hov
          go_wp2_with (first
            | (at_builtin; have h5 := HS.out.below ((Below.refl _ wr).alloc (Nat.le_refl _) (.cells (cellsI x.e.t.hd.id).toArray 33)); refine kindJ.wp_append rfl (.tmp 32) (.tmp 43) rfl w.heap.size (.slice A1 n1 c1) ids rfl h5.o1 (some ⟨wr.heap.size, 0, none⟩) [x.e.t.hd.id] 1 1 rfl rfl (rd_oneJ kindJ wr x.e.t.hd.id) (by have := HLE.out; unfold maxLen; simp; omega) (by have := HLE.out; simp; omega) h5.b.size ?_; intro A6 n6 c6 w6 hn6 ho6 hb6 hg6; have HS6 : Hid (AgeRS w0 w w6 (K.take (i + 1)) now (.slice A6 n6 c6) (.slice A2 n2 c2) (ids ++ [x.e.t.hd.id]) R) := ⟨ho6, h5.o2.apartR h5.o1 (by decide) hg6, (by rw [HTK.out.1, if_pos HO.out, List.map_append, h5.e1]; rfl), (by rw [HTK.out.2, if_pos HO.out, h5.e2]), h5.rd, h5.b.trans hb6⟩; clear h5 hn6 ho6 hb6 hg6))
          all_goals exact ⟨⟨i + 1, ids ++ [x.e.t.hd.id], R, A6, n6, c6, A2, n2, c2, by omega, by go_num, rfl, rfl, HS6⟩, by simp [intOf]; omega⟩
        · have HO := Lib.hid hov
          go_wp2_with (first
            | (refine wpList_load_mid rfl 75 (.tmp 51) rfl g (o + i * 11) rfl _ _ HRG.out Tryz.underlying75 rfl sizeN ?_)
            | (at_builtin; have h5 := HS.out.below ((Below.refl _ wr).alloc (Nat.le_refl _) (.cells (cellsK x).toArray 75)); refine kindN.wp_append rfl (.tmp 45) (.tmp 53) rfl w.heap.size (.slice A2 n2 c2) R rfl h5.o2 (some ⟨wr.heap.size, 0, none⟩) [x] 1 1 rfl rfl (rd_oneJ kindN wr x) (by have := HLE.out; unfold maxLen; simp; omega) (by have := HLE.out; simp; omega) h5.b.size ?_; intro A6 n6 c6 w6 hn6 ho6 hb6 hg6; have HS6 : Hid (AgeRS w0 w w6 (K.take (i + 1)) now (.slice A1 n1 c1) (.slice A6 n6 c6) ids (R ++ [x])) := ⟨h5.o1.apartR h5.o2 (by decide) hg6, ho6, (by rw [HTK.out.1, if_neg HO.out, h5.e1]), (by rw [HTK.out.2, if_neg HO.out, List.map_append, h5.e2]; rfl), (fun z hz => by rcases List.mem_append.1 hz with q | q; exact h5.rd z q; (rw [List.mem_singleton] at q; subst q; exact HRD.out)), h5.b.trans hb6⟩; clear h5 hn6 ho6 hb6 hg6))
          all_goals exact ⟨⟨i + 1, ids, R ++ [x], A1, n1, c1, A6, n6, c6, by omega, by go_num, rfl, rfl, HS6⟩, by simp [intOf]; omega⟩
      · obtain rfl : n = i := by omega
        have HDR := Lib.hid (HD.out.below HS.out.b)
        obtain ⟨v8, L8, hbs8, _⟩ := HDR.out.has
        have f8 : wr.frozen? ⟨rb, 1, none⟩ = false := by simp [World.frozen?, hbs8]
        have HBS := Lib.hid hbs8
        clear hbs8
        go_wp2
        go_ret
        have h1 := HS.out
        rw [List.take_of_length_le (by have := HN.out; omega)] at h1
        have hne : (Value.slice A2 n2 c2).ownBlock ≠ some rb := fun e => by
          obtain ⟨cur, hc⟩ := h1.o2.block e
          rw [HBS.out] at hc
          cases hc
        have hne1 : ∀ g, (Value.slice A1 n1 c1).ownBlock = some g → g ≠ rb := fun g hg e => by
          obtain ⟨cur, hc⟩ := h1.o1.block hg
          rw [e, HBS.out] at hc
          cases hc
        refine ⟨_, rfl, ?_, ?_, (KeepR.of_below h1.b).trans (KeepR.base HBS.out _ _)⟩
        · rw [HAG.out, ← h1.e1]
          exact h1.o1.same fun g hg => heap_setCell_other _ _ _ _ (hne1 g hg)
        · have hinv := HINV.out
          rw [HAG.out] at hinv ⊢
          exact HDR.out.turn (h1.o2.mono HD.out.bel.size) hne h1.e2 h1.rd hinv
  · have HMO : Hid (∀ W, Calls Tryz.prog 30 #[.int .i64 now] W fun e w' => e = .returned (.bool false) ∧ w' = W) := fun W => by
      have := rmom_any now W
      rwa [decide_eq_false hm] at this
    have HAG : Hid (ageD K now = ([], K)) := by unfold Hid ageD; rw [if_neg hm]
    have HD := Lib.hid h
    clear h hm
    go_enter Tryz.func26, Tryz.ntmps26
    go_wp2_with (go_at_call 30; refine (HMO.out _).mono ?_; rintro e w3 ⟨rfl, h3⟩; have h3 := h3.symm; subst h3)
    go_ret
    rw [HAG.out]
    exact ⟨_, rfl, OwnE.nil _ _, HD.out, KeepR.of_below (Below.refl _ _)⟩
end Go.Proofs.YtpaooddmgcekhaaGreat.ti
