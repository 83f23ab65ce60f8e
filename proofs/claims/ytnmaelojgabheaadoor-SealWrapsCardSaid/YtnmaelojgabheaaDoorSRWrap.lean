/-
  AN ENVELOPE IS MADE: the document's Wrap.
-/
import Derived.Test.YtnmaelojgabheaaDoorSRPrint
namespace Go.Proofs.YtnmaelojgabheaaDoor
set_option linter.unusedSimpArgs false
set_option linter.unusedVariables false
open Go.RowKit
theorem wpList_skip {P : Program} {ops : Array Oper} {Q : Exit → Act → World → Prop} {rest : List Oper} {o : Oper} {a : Act} {w : World} (hg : Region.wanted o (yielded ops a.tmps) = false) (h : wpList P ops Q rest (a.put o.dst undef) w) : wpList P ops Q (o :: rest) a w := by
  unfold wpList
  rw [if_neg (by rw [hg]; decide)]
  exact h
section
/- (shut: else every tactic runs the next operation) -/
attribute [local irreducible] wpList Code.wp
set_option maxHeartbeats 400000 in
set_option maxRecDepth 100000 in
theorem rwrap_bad1 (id : Int) (sA : Option Addr) (n sc : Nat) (hn : n ≤ 1000000) (k l r f : Int) (h1 : ¬ okO k l r f) (b : Value) (w : World) :
    Calls Tryd.prog 6 #[.agg #[.int .i64 id, .slice sA n sc], .agg #[.int .i64 k, .int .i64 l, .int .i64 r, .int .i64 f], b] w fun e w' => e = .returned (.tuple #[.slice none 0 0, .int .i64 1]) ∧ Below w.heap.size w w' := by
  have hO := rokO_any k l r f
  have hK := fun W => rokK_any id sA n sc (by omega) W
  obtain ⟨Y, hY⟩ : ∃ Y, (w.alloc (.cells #[.int .i64 id, .slice sA n sc] 24)).alloc (.cells #[.int .i64 k, .int .i64 l, .int .i64 r, .int .i64 f] 26) = Y := ⟨_, rfl⟩
  have hBY : Below w.heap.size w Y := by rw [← hY]; exact ((Below.refl w.heap.size w).alloc (Nat.le_refl _) _).alloc (by simp) _
  have hYs : Y.heap.size = w.heap.size + 2 := by rw [← hY]; simp
  have hak : Arr Y w.heap.size 24 [.int .i64 id, .slice sA n sc] := by rw [← hY]; exact (Arr.new w 24 [.int .i64 id, .slice sA n sc]).alloc _
  have hao : Arr Y (w.heap.size + 1) 26 [.int .i64 k, .int .i64 l, .int .i64 r, .int .i64 f] := by rw [← hY]; exact Arr.new2 w (.cells #[.int .i64 id, .slice sA n sc] 24) 26 [.int .i64 k, .int .i64 l, .int .i64 r, .int .i64 f]
  have HAK : Hid (∀ W, Below Y.heap.size Y W → Arr W w.heap.size 24 [.int .i64 id, .slice sA n sc]) := fun W h => hak.below h (by omega)
  have HAO : Hid (∀ W, Below Y.heap.size Y W → Arr W (w.heap.size + 1) 26 [.int .i64 k, .int .i64 l, .int .i64 r, .int .i64 f]) := fun W h => hao.below h (by omega)
  have HBY := Lib.hid hBY
  have B0 := Lib.hid (Below.refl Y.heap.size Y)
  clear hBY hYs hak hao
  have H1 := Lib.hid h1
  clear h1
  have HNU : ∀ b : Bool, (some undef = some (Value.bool b)) = False := fun b => eq_false (fun h => by cases h)
  have HNV : ∀ b : Bool, (undef = Value.bool b) = False := fun b => eq_false (fun h => by cases h)
  go_enter Tryd.func6, Tryd.ntmps6
  go_wp2_with (first
    | (refine wpList_load_arr rfl 26 (.tmp 4) rfl (w.heap.size + 1) rfl (HAO.out _ B0.out) Tryd.underlying26 rfl sizeO rfl ?_)
    | (go_at_call 13; refine (hO Y).mono ?_; rintro e w1 ⟨⟨x, rfl, hx⟩, hb1⟩; obtain rfl : x = false := (by cases x; rfl; exact absurd (hx.1 rfl) H1.out); have B1 := Lib.hid (B0.out.trans hb1); clear hx hb1)
    | (refine wpList_load_arr rfl 24 (.tmp 3) rfl w.heap.size rfl (HAK.out _ B1.out) Tryd.underlying24 rfl sizeK rfl ?_)
    | (go_at_call 14; refine (hK w1).mono ?_; rintro e w2 ⟨⟨y, rfl, hy⟩, hb2⟩; refine Hid.out ?_))
  refine Lib.hid ?_
  have B2 := Lib.hid (B1.out.trans (hb2.mono B1.out.size))
  have co2 := (HAO.out _ B2.out).cell 0
  have ck2 := (HAK.out _ B2.out).cell 0
  simp only [List.getElem?_cons_zero] at co2 ck2
  clear hy hb2
  rename_i K0 hK0 K1 hK1
  refine hK1 _ _ ?_
  clear hK1 K1
  refine wpList_plain rfl (fun K2 hK2 => ?_)
  go_simp
  refine hK2 _ _ ?_
  clear hK2 K2
  refine wpList_nil ?_
  refine hK0 _ _ ?_
  clear hK0 K0
  refine wp_seq_k (fun K3 hK3 => ?_)
  refine wp_seq_k (fun K4 hK4 => ?_)
  refine wp_region_lit ?_
  refine wpList_plain rfl (fun K5 hK5 => ?_)
  go_simp
  refine hK5 _ _ ?_
  clear hK5 K5
  refine wpList_plain rfl (fun K5 hK5 => ?_)
  go_simp
  refine hK5 _ _ ?_
  clear hK5 K5
  refine wpList_plain rfl (fun K5 hK5 => ?_)
  go_simp
  refine hK5 _ _ (wpList_skip (by kernel_rfl) (wpList_skip (by kernel_rfl) (wpList_skip (by kernel_rfl) (wpList_skip (by kernel_rfl) (wpList_skip (by kernel_rfl) (wpList_skip (by kernel_rfl) (wpList_skip (by kernel_rfl) (wpList_skip (by kernel_rfl) (wpList_skip (by kernel_rfl) (wpList_skip (by kernel_rfl) (wpList_skip (by kernel_rfl) (wpList_skip (by kernel_rfl) (wpList_skip (by kernel_rfl) (wpList_skip (by kernel_rfl) (wpList_plain rfl (fun K6 hK6 => ?_))))))))))))))))
  simp only [Act.put, List.setIfInBounds_toArray, List.set_cons_zero, List.set_cons_succ]
  go_simp
  refine hK6 _ _ (wpList_nil (hK4 _ _ ?_))
  clear hK6 K6 hK5 K5 hK4 K4
  go_wp2
  go_ret2
  exact ⟨rfl, HBY.out.trans (B2.out.mono HBY.out.size)⟩
end
set_option maxHeartbeats 400000 in
set_option maxRecDepth 100000 in
theorem rwrap_bad2 (id : Int) (sA : Option Addr) (n sc : Nat) (hn : n ≤ 1000000) (k l r f : Int) (h1 : okO k l r f) (hk0 : ¬ k = 0) (h2 : ¬ okK id n) (b : Value) (w : World) :
    Calls Tryd.prog 6 #[.agg #[.int .i64 id, .slice sA n sc], .agg #[.int .i64 k, .int .i64 l, .int .i64 r, .int .i64 f], b] w fun e w' => e = .returned (.tuple #[.slice none 0 0, .int .i64 1]) ∧ Below w.heap.size w w' := by
  have hO := rokO_any k l r f
  have hK := fun W => rokK_any id sA n sc (by omega) W
  obtain ⟨Y, hY⟩ : ∃ Y, (w.alloc (.cells #[.int .i64 id, .slice sA n sc] 24)).alloc (.cells #[.int .i64 k, .int .i64 l, .int .i64 r, .int .i64 f] 26) = Y := ⟨_, rfl⟩
  have hBY : Below w.heap.size w Y := by rw [← hY]; exact ((Below.refl w.heap.size w).alloc (Nat.le_refl _) _).alloc (by simp) _
  have hYs : Y.heap.size = w.heap.size + 2 := by rw [← hY]; simp
  have hak : Arr Y w.heap.size 24 [.int .i64 id, .slice sA n sc] := by rw [← hY]; exact (Arr.new w 24 [.int .i64 id, .slice sA n sc]).alloc _
  have hao : Arr Y (w.heap.size + 1) 26 [.int .i64 k, .int .i64 l, .int .i64 r, .int .i64 f] := by rw [← hY]; exact Arr.new2 w (.cells #[.int .i64 id, .slice sA n sc] 24) 26 [.int .i64 k, .int .i64 l, .int .i64 r, .int .i64 f]
  have HAK : Hid (∀ W, Below Y.heap.size Y W → Arr W w.heap.size 24 [.int .i64 id, .slice sA n sc]) := fun W h => hak.below h (by omega)
  have HAO : Hid (∀ W, Below Y.heap.size Y W → Arr W (w.heap.size + 1) 26 [.int .i64 k, .int .i64 l, .int .i64 r, .int .i64 f]) := fun W h => hao.below h (by omega)
  have HBY := Lib.hid hBY
  have B0 := Lib.hid (Below.refl Y.heap.size Y)
  clear hBY hYs hak hao
  have H1 := Lib.hid h1
  have H2 := Lib.hid h2
  clear h1 h2
  have HNU : ∀ b : Bool, (some undef = some (Value.bool b)) = False := fun b => eq_false (fun h => by cases h)
  have HNV : ∀ b : Bool, (undef = Value.bool b) = False := fun b => eq_false (fun h => by cases h)
  go_enter Tryd.func6, Tryd.ntmps6
  go_wp2_with (first
    | (refine wpList_load_arr rfl 26 (.tmp 4) rfl (w.heap.size + 1) rfl (HAO.out _ B0.out) Tryd.underlying26 rfl sizeO rfl ?_)
    | (go_at_call 13; refine (hO Y).mono ?_; rintro e w1 ⟨⟨x, rfl, hx⟩, hb1⟩; obtain rfl : x = true := hx.2 H1.out; have B1 := Lib.hid (B0.out.trans hb1); clear hx hb1)
    | (refine wpList_load_arr rfl 24 (.tmp 3) rfl w.heap.size rfl (HAK.out _ B1.out) Tryd.underlying24 rfl sizeK rfl ?_)
    | (go_at_call 14; refine (hK w1).mono ?_; rintro e w2 ⟨⟨y, rfl, hy⟩, hb2⟩; obtain rfl : y = false := (by cases y; rfl; exact absurd (hy.1 rfl) H2.out); have B2 := Lib.hid (B1.out.trans (hb2.mono B1.out.size)); have co2 := (HAO.out _ B2.out).cell 0; have ck2 := (HAK.out _ B2.out).cell 0; simp only [List.getElem?_cons_zero] at co2 ck2; clear hy hb2))
  all_goals first | (go_ret2; exact ⟨rfl, HBY.out.trans (B2.out.mono HBY.out.size)⟩) | (exfalso; simp_all; done)
set_option maxHeartbeats 400000 in
set_option maxRecDepth 100000 in
theorem rwrap_bad3 (id : Int) (sA : Option Addr) (n sc : Nat) (hn : n ≤ 1000000) (k l r f : Int) (h1 : okO k l r f) (hk0 : ¬ k = 0) (h2 : okK id n) (h3 : ¬ id = k) (b : Value) (w : World) :
    Calls Tryd.prog 6 #[.agg #[.int .i64 id, .slice sA n sc], .agg #[.int .i64 k, .int .i64 l, .int .i64 r, .int .i64 f], b] w fun e w' => e = .returned (.tuple #[.slice none 0 0, .int .i64 1]) ∧ Below w.heap.size w w' := by
  have hO := rokO_any k l r f
  have hK := fun W => rokK_any id sA n sc (by omega) W
  obtain ⟨Y, hY⟩ : ∃ Y, (w.alloc (.cells #[.int .i64 id, .slice sA n sc] 24)).alloc (.cells #[.int .i64 k, .int .i64 l, .int .i64 r, .int .i64 f] 26) = Y := ⟨_, rfl⟩
  have hBY : Below w.heap.size w Y := by rw [← hY]; exact ((Below.refl w.heap.size w).alloc (Nat.le_refl _) _).alloc (by simp) _
  have hYs : Y.heap.size = w.heap.size + 2 := by rw [← hY]; simp
  have hak : Arr Y w.heap.size 24 [.int .i64 id, .slice sA n sc] := by rw [← hY]; exact (Arr.new w 24 [.int .i64 id, .slice sA n sc]).alloc _
  have hao : Arr Y (w.heap.size + 1) 26 [.int .i64 k, .int .i64 l, .int .i64 r, .int .i64 f] := by rw [← hY]; exact Arr.new2 w (.cells #[.int .i64 id, .slice sA n sc] 24) 26 [.int .i64 k, .int .i64 l, .int .i64 r, .int .i64 f]
  have HAK : Hid (∀ W, Below Y.heap.size Y W → Arr W w.heap.size 24 [.int .i64 id, .slice sA n sc]) := fun W h => hak.below h (by omega)
  have HAO : Hid (∀ W, Below Y.heap.size Y W → Arr W (w.heap.size + 1) 26 [.int .i64 k, .int .i64 l, .int .i64 r, .int .i64 f]) := fun W h => hao.below h (by omega)
  have HBY := Lib.hid hBY
  have B0 := Lib.hid (Below.refl Y.heap.size Y)
  clear hBY hYs hak hao
  have H1 := Lib.hid h1
  have H2 := Lib.hid h2
  have h3b : (id == k) = false := by simpa using h3
  clear h1 h2
  have HNU : ∀ b : Bool, (some undef = some (Value.bool b)) = False := fun b => eq_false (fun h => by cases h)
  have HNV : ∀ b : Bool, (undef = Value.bool b) = False := fun b => eq_false (fun h => by cases h)
  go_enter Tryd.func6, Tryd.ntmps6
  go_wp2_with (first
    | (refine wpList_load_arr rfl 26 (.tmp 4) rfl (w.heap.size + 1) rfl (HAO.out _ B0.out) Tryd.underlying26 rfl sizeO rfl ?_)
    | (go_at_call 13; refine (hO Y).mono ?_; rintro e w1 ⟨⟨x, rfl, hx⟩, hb1⟩; obtain rfl : x = true := hx.2 H1.out; have B1 := Lib.hid (B0.out.trans hb1); clear hx hb1)
    | (refine wpList_load_arr rfl 24 (.tmp 3) rfl w.heap.size rfl (HAK.out _ B1.out) Tryd.underlying24 rfl sizeK rfl ?_)
    | (go_at_call 14; refine (hK w1).mono ?_; rintro e w2 ⟨⟨y, rfl, hy⟩, hb2⟩; obtain rfl : y = true := hy.2 H2.out; have B2 := Lib.hid (B1.out.trans (hb2.mono B1.out.size)); have co2 := (HAO.out _ B2.out).cell 0; have ck2 := (HAK.out _ B2.out).cell 0; simp only [List.getElem?_cons_zero] at co2 ck2; clear hy hb2))
  all_goals first | (go_ret2; exact ⟨rfl, HBY.out.trans (B2.out.mono HBY.out.size)⟩) | (exfalso; simp_all; done)
theorem rwrap_bad (id : Int) (sA : Option Addr) (n sc : Nat) (hn : n ≤ 1000000) (k l r f : Int) (hbad : ¬ (okO k l r f ∧ okW id n k)) (b : Value) (w : World) :
    Calls Tryd.prog 6 #[.agg #[.int .i64 id, .slice sA n sc], .agg #[.int .i64 k, .int .i64 l, .int .i64 r, .int .i64 f], b] w fun e w' => e = .returned (.tuple #[.slice none 0 0, .int .i64 1]) ∧ Below w.heap.size w w' := by
  by_cases h1 : okO k l r f
  · have hk0 : ¬ k = 0 := fun h => hbad ⟨h1, .inl h⟩
    by_cases h2 : okK id n
    · exact rwrap_bad3 id sA n sc hn k l r f h1 hk0 h2 (fun h => hbad ⟨h1, .inr ⟨h2, h⟩⟩) b w
    · exact rwrap_bad2 id sA n sc hn k l r f h1 hk0 h2 b w
  · exact rwrap_bad1 id sA n sc hn k l r f h1 b w
set_option maxHeartbeats 400000 in
set_option maxRecDepth 100000 in
theorem rwrap_big0 (id : Int) (sA : Option Addr) (n sc : Nat) (hn : n ≤ 1000000) (k l r f : Int) (h1 : okO k l r f) (hk0 : k = 0) (pA : Option Addr) (m pc : Nat) (hbig : 4096 < m) (hm : m ≤ 1000000) (w : World) :
    Calls Tryd.prog 6 #[.agg #[.int .i64 id, .slice sA n sc], .agg #[.int .i64 k, .int .i64 l, .int .i64 r, .int .i64 f], .slice pA m pc] w fun e w' => e = .returned (.tuple #[.slice none 0 0, .int .i64 3]) ∧ Below w.heap.size w w' := by
  have hO := rokO_any k l r f
  have hK := fun W => rokK_any id sA n sc (by omega) W
  obtain ⟨Y, hY⟩ : ∃ Y, (w.alloc (.cells #[.int .i64 id, .slice sA n sc] 24)).alloc (.cells #[.int .i64 k, .int .i64 l, .int .i64 r, .int .i64 f] 26) = Y := ⟨_, rfl⟩
  have hBY : Below w.heap.size w Y := by rw [← hY]; exact ((Below.refl w.heap.size w).alloc (Nat.le_refl _) _).alloc (by simp) _
  have hYs : Y.heap.size = w.heap.size + 2 := by rw [← hY]; simp
  have hak : Arr Y w.heap.size 24 [.int .i64 id, .slice sA n sc] := by rw [← hY]; exact (Arr.new w 24 [.int .i64 id, .slice sA n sc]).alloc _
  have hao : Arr Y (w.heap.size + 1) 26 [.int .i64 k, .int .i64 l, .int .i64 r, .int .i64 f] := by rw [← hY]; exact Arr.new2 w (.cells #[.int .i64 id, .slice sA n sc] 24) 26 [.int .i64 k, .int .i64 l, .int .i64 r, .int .i64 f]
  have HAK : Hid (∀ W, Below Y.heap.size Y W → Arr W w.heap.size 24 [.int .i64 id, .slice sA n sc]) := fun W h => hak.below h (by omega)
  have HAO : Hid (∀ W, Below Y.heap.size Y W → Arr W (w.heap.size + 1) 26 [.int .i64 k, .int .i64 l, .int .i64 r, .int .i64 f]) := fun W h => hao.below h (by omega)
  have HBY := Lib.hid hBY
  have B0 := Lib.hid (Below.refl Y.heap.size Y)
  clear hBY hYs hak hao
  have H1 := Lib.hid h1
  subst hk0
  clear h1
  have HNU : ∀ b : Bool, (some undef = some (Value.bool b)) = False := fun b => eq_false (fun h => by cases h)
  have HNV : ∀ b : Bool, (undef = Value.bool b) = False := fun b => eq_false (fun h => by cases h)
  go_enter Tryd.func6, Tryd.ntmps6
  go_wp2_with (first
    | (refine wpList_load_arr rfl 26 (.tmp 4) rfl (w.heap.size + 1) rfl (HAO.out _ B0.out) Tryd.underlying26 rfl sizeO rfl ?_)
    | (go_at_call 13; refine (hO Y).mono ?_; rintro e w1 ⟨⟨x, rfl, hx⟩, hb1⟩; obtain rfl : x = true := hx.2 H1.out; have B1 := Lib.hid (B0.out.trans hb1); clear hx hb1)
    | (refine wpList_load_arr rfl 24 (.tmp 3) rfl w.heap.size rfl (HAK.out _ B1.out) Tryd.underlying24 rfl sizeK rfl ?_)
    | (go_at_call 14; refine (hK w1).mono ?_; rintro e w2 ⟨⟨y, rfl, hy⟩, hb2⟩; have B2 := Lib.hid (B1.out.trans (hb2.mono B1.out.size)); have co2 := (HAO.out _ B2.out).cell 0; have ck2 := (HAK.out _ B2.out).cell 0; simp only [List.getElem?_cons_zero] at co2 ck2; clear hy hb2))
  all_goals first | (go_ret2; exact ⟨rfl, HBY.out.trans (B2.out.mono HBY.out.size)⟩) | (exfalso; simp_all; done)
set_option maxHeartbeats 400000 in
set_option maxRecDepth 100000 in
theorem rwrap_big1 (id : Int) (sA : Option Addr) (n sc : Nat) (hn : n ≤ 1000000) (k l r f : Int) (h1 : okO k l r f) (hk0 : ¬ k = 0) (h2 : okK id n) (h3 : id = k) (pA : Option Addr) (m pc : Nat) (hbig : 4096 < m) (hm : m ≤ 1000000) (w : World) :
    Calls Tryd.prog 6 #[.agg #[.int .i64 id, .slice sA n sc], .agg #[.int .i64 k, .int .i64 l, .int .i64 r, .int .i64 f], .slice pA m pc] w fun e w' => e = .returned (.tuple #[.slice none 0 0, .int .i64 3]) ∧ Below w.heap.size w w' := by
  have hO := rokO_any k l r f
  have hK := fun W => rokK_any id sA n sc (by omega) W
  obtain ⟨Y, hY⟩ : ∃ Y, (w.alloc (.cells #[.int .i64 id, .slice sA n sc] 24)).alloc (.cells #[.int .i64 k, .int .i64 l, .int .i64 r, .int .i64 f] 26) = Y := ⟨_, rfl⟩
  have hBY : Below w.heap.size w Y := by rw [← hY]; exact ((Below.refl w.heap.size w).alloc (Nat.le_refl _) _).alloc (by simp) _
  have hYs : Y.heap.size = w.heap.size + 2 := by rw [← hY]; simp
  have hak : Arr Y w.heap.size 24 [.int .i64 id, .slice sA n sc] := by rw [← hY]; exact (Arr.new w 24 [.int .i64 id, .slice sA n sc]).alloc _
  have hao : Arr Y (w.heap.size + 1) 26 [.int .i64 k, .int .i64 l, .int .i64 r, .int .i64 f] := by rw [← hY]; exact Arr.new2 w (.cells #[.int .i64 id, .slice sA n sc] 24) 26 [.int .i64 k, .int .i64 l, .int .i64 r, .int .i64 f]
  have HAK : Hid (∀ W, Below Y.heap.size Y W → Arr W w.heap.size 24 [.int .i64 id, .slice sA n sc]) := fun W h => hak.below h (by omega)
  have HAO : Hid (∀ W, Below Y.heap.size Y W → Arr W (w.heap.size + 1) 26 [.int .i64 k, .int .i64 l, .int .i64 r, .int .i64 f]) := fun W h => hao.below h (by omega)
  have HBY := Lib.hid hBY
  have B0 := Lib.hid (Below.refl Y.heap.size Y)
  clear hBY hYs hak hao
  have H1 := Lib.hid h1
  have H2 := Lib.hid h2
  subst h3
  clear h2
  clear h1
  have HNU : ∀ b : Bool, (some undef = some (Value.bool b)) = False := fun b => eq_false (fun h => by cases h)
  have HNV : ∀ b : Bool, (undef = Value.bool b) = False := fun b => eq_false (fun h => by cases h)
  go_enter Tryd.func6, Tryd.ntmps6
  go_wp2_with (first
    | (refine wpList_load_arr rfl 26 (.tmp 4) rfl (w.heap.size + 1) rfl (HAO.out _ B0.out) Tryd.underlying26 rfl sizeO rfl ?_)
    | (go_at_call 13; refine (hO Y).mono ?_; rintro e w1 ⟨⟨x, rfl, hx⟩, hb1⟩; obtain rfl : x = true := hx.2 H1.out; have B1 := Lib.hid (B0.out.trans hb1); clear hx hb1)
    | (refine wpList_load_arr rfl 24 (.tmp 3) rfl w.heap.size rfl (HAK.out _ B1.out) Tryd.underlying24 rfl sizeK rfl ?_)
    | (go_at_call 14; refine (hK w1).mono ?_; rintro e w2 ⟨⟨y, rfl, hy⟩, hb2⟩; obtain rfl : y = true := hy.2 H2.out; have B2 := Lib.hid (B1.out.trans (hb2.mono B1.out.size)); have co2 := (HAO.out _ B2.out).cell 0; have ck2 := (HAK.out _ B2.out).cell 0; simp only [List.getElem?_cons_zero] at co2 ck2; clear hy hb2))
  all_goals first | (go_ret2; exact ⟨rfl, HBY.out.trans (B2.out.mono HBY.out.size)⟩) | (exfalso; simp_all; done)
theorem rwrap_big (id : Int) (sA : Option Addr) (n sc : Nat) (hn : n ≤ 1000000) (k l r f : Int) (ho : okO k l r f) (hw : okW id n k) (pA : Option Addr) (m pc : Nat) (hbig : 4096 < m) (hm : m ≤ 1000000) (w : World) :
    Calls Tryd.prog 6 #[.agg #[.int .i64 id, .slice sA n sc], .agg #[.int .i64 k, .int .i64 l, .int .i64 r, .int .i64 f], .slice pA m pc] w fun e w' => e = .returned (.tuple #[.slice none 0 0, .int .i64 3]) ∧ Below w.heap.size w w' := by
  by_cases hk0 : k = 0
  · exact rwrap_big0 id sA n sc hn k l r f ho hk0 pA m pc hbig hm w
  · rcases hw with h | ⟨h2, h3⟩
    · exact absurd h hk0
    · exact rwrap_big1 id sA n sc hn k l r f ho hk0 h2 h3 pA m pc hbig hm w
set_option maxHeartbeats 400000 in
set_option maxRecDepth 100000 in
theorem rwrap_ok0t (id : Int) (sA : Option Addr) (sc : Nat) (sec : List Nat) (hsb : ∀ x ∈ sec, x < 256) (hsl : sec.length ≤ 1000000) (k l r f : Nat) (h1 : okO k l r f) (hk0 : (k : Int) = 0) (h2 : okK id sec.length) (pA : Option Addr) (pc : Nat) (pk : List Nat) (hpb : ∀ x ∈ pk, x < 256) (hpl : pk.length ≤ 4096) (w : World) (hrs : RdN w.heap.size w sA sec) (hrp : RdN w.heap.size w pA pk) :
    Calls Tryd.prog 6 #[.agg #[.int .i64 id, .slice sA sec.length sc], .agg #[.int .i64 k, .int .i64 l, .int .i64 r, .int .i64 f], .slice pA pk.length pc] w fun e w' => (∃ v', e = .returned (.tuple #[v', .int .i64 0]) ∧ Hid (w'.ownsRow w.heap.size 5 1 v' (wrapL k l r f sec pk).length (u8s (wrapL k l r f sec pk)))) ∧ Below w.heap.size w w' := by
  obtain ⟨i0, hi, hz0, hz1, hz2⟩ := info_parts Tryd.info5
  have hb4 : k < 256 ∧ l < 65536 ∧ r < 65536 ∧ f < 4294967296 := by unfold okO okIn at h1; omega
  have hO := rokO_any k l r f
  have hK := fun W => rokK_any id sA sec.length sc (by omega) W
  have htop := fun W => top_any k l r f hb4.1 hb4.2.1 hb4.2.2.1 hb4.2.2.2 W
  have hpr := fun W (q1 : RdN (World.heap W).size W sA sec) (q2 : RdN W.heap.size W pA pk) => rprint_any id sA sc sec hsb hsl k l r f hb4.1 hb4.2.1 hb4.2.2.1 hb4.2.2.2 pA pc pk hpb (by omega) W q1 q2
  have hHDl := headL_len k l r f
  have hFPl := printL_len k sec (headL k l r f) pk
  have hwl : wrapL k l r f sec pk = (headL k l r f ++ printL k sec (headL k l r f) pk) ++ pk := by unfold wrapL; rw [List.append_assoc]
  rw [hwl]
  obtain ⟨FP, hFP⟩ : ∃ FP, printL k sec (headL k l r f) pk = FP := ⟨_, rfl⟩
  rw [hFP] at hpr hFPl
  rw [hFP]
  obtain ⟨HD, hHD⟩ : ∃ HD, headL k l r f = HD := ⟨_, rfl⟩
  rw [hHD] at htop hHDl
  rw [hHD]
  obtain ⟨kk, hkk⟩ : ∃ kk : Int, (k : Int) = kk := ⟨_, rfl⟩
  rw [hkk] at hO htop hpr h1 hk0
  rw [hkk]
  clear hkk
  have hll : (HD ++ FP).length = 27 := by rw [List.length_append, hHDl, hFPl]
  obtain ⟨Y, hY⟩ : ∃ Y, (w.alloc (.cells #[.int .i64 id, .slice sA sec.length sc] 24)).alloc (.cells #[.int .i64 kk, .int .i64 l, .int .i64 r, .int .i64 f] 26) = Y := ⟨_, rfl⟩
  have hBY : Below w.heap.size w Y := by rw [← hY]; exact ((Below.refl w.heap.size w).alloc (Nat.le_refl _) _).alloc (by simp) _
  have hYs : Y.heap.size = w.heap.size + 2 := by rw [← hY]; simp
  have hak : Arr Y w.heap.size 24 [.int .i64 id, .slice sA sec.length sc] := by rw [← hY]; exact (Arr.new w 24 [.int .i64 id, .slice sA sec.length sc]).alloc _
  have hao : Arr Y (w.heap.size + 1) 26 [.int .i64 kk, .int .i64 l, .int .i64 r, .int .i64 f] := by rw [← hY]; exact Arr.new2 w (.cells #[.int .i64 id, .slice sA sec.length sc] 24) 26 [.int .i64 kk, .int .i64 l, .int .i64 r, .int .i64 f]
  have HAK : Hid (∀ W, Below Y.heap.size Y W → Arr W w.heap.size 24 [.int .i64 id, .slice sA sec.length sc]) := fun W h => hak.below h (by omega)
  have HAO : Hid (∀ W, Below Y.heap.size Y W → Arr W (w.heap.size + 1) 26 [.int .i64 kk, .int .i64 l, .int .i64 r, .int .i64 f]) := fun W h => hao.below h (by omega)
  have HS : Hid (∀ W, Below Y.heap.size Y W → W.cell? ⟨w.heap.size, 0, none⟩ = some (.int .i64 id) ∧ W.cell? ⟨w.heap.size, 1, none⟩ = some (.slice sA sec.length sc) ∧ W.cell? ⟨w.heap.size + 1, 0, none⟩ = some (.int .i64 kk) ∧ W.cell? ⟨w.heap.size + 1, 1, none⟩ = some (.int .i64 l) ∧ W.cell? ⟨w.heap.size + 1, 2, none⟩ = some (.int .i64 r) ∧ W.cell? ⟨w.heap.size + 1, 3, none⟩ = some (.int .i64 f)) := fun W hW =>
    ⟨(HAK.out W hW).cell 0, (HAK.out W hW).cell 1, (HAO.out W hW).cell 0, (HAO.out W hW).cell 1, (HAO.out W hW).cell 2, (HAO.out W hW).cell 3⟩
  have HRS : Hid (∀ W, Below Y.heap.size Y W → RdN W.heap.size W sA sec) := fun W h => ((hrs.below hBY (Nat.le_refl _)).below h (by omega)).mono (by have := h.size; omega)
  have HRP : Hid (∀ W, Below Y.heap.size Y W → RdN W.heap.size W pA pk) := fun W h => ((hrp.below hBY (Nat.le_refl _)).below h (by omega)).mono (by have := h.size; omega)
  have HBY := Lib.hid hBY
  have B0 := Lib.hid (Below.refl Y.heap.size Y)
  have HTOP := Lib.hid htop
  have HPR := Lib.hid hpr
  have HDL := Lib.hid hHDl
  have HFL := Lib.hid hFPl
  have HLL := Lib.hid hll
  clear hBY hYs hak hao hrs hrp htop hpr hHD hFP hwl hsb hpb hHDl hFPl hll hb4
  have H1 := Lib.hid h1
  have H2 := Lib.hid h2
  subst hk0
  clear h2
  clear h1
  have HNU : ∀ b : Bool, (some undef = some (Value.bool b)) = False := fun b => eq_false (fun h => by cases h)
  have HNV : ∀ b : Bool, (undef = Value.bool b) = False := fun b => eq_false (fun h => by cases h)
  go_enter Tryd.func6, Tryd.ntmps6
  go_wp2_with (first
    | (refine wpList_load_arr rfl 26 (.tmp 4) rfl (w.heap.size + 1) rfl (HAO.out _ B0.out) Tryd.underlying26 rfl sizeO rfl ?_)
    | (go_at_call 13; refine (hO Y).mono ?_; rintro e w1 ⟨⟨x, rfl, hx⟩, hb1⟩; obtain rfl : x = true := hx.2 H1.out; have B1 := Lib.hid (B0.out.trans hb1); clear hx hb1)
    | (refine wpList_load_arr rfl 24 (.tmp 3) rfl w.heap.size rfl (HAK.out _ B1.out) Tryd.underlying24 rfl sizeK rfl ?_)
    | (go_at_call 14; refine (hK w1).mono ?_; rintro e w2 ⟨⟨y, rfl, hy⟩, hb2⟩; obtain rfl : y = true := hy.2 H2.out; have B2 := Lib.hid (B1.out.trans (hb2.mono B1.out.size)); have co2 := (HAO.out _ B2.out).cell 0; have ck2 := (HAK.out _ B2.out).cell 0; simp only [List.getElem?_cons_zero] at co2 ck2; clear hy hb2))
  have HB := Lib.hid (B2.out.drew)
  clear co2 ck2
  refine wp_region_held_drew (S := fun W => W.cell? ⟨w.heap.size, 0, none⟩ = some (.int .i64 id) ∧ W.cell? ⟨w.heap.size, 1, none⟩ = some (.slice sA sec.length sc) ∧ W.cell? ⟨w.heap.size + 1, 0, none⟩ = some (.int .i64 0) ∧ W.cell? ⟨w.heap.size + 1, 1, none⟩ = some (.int .i64 l) ∧ W.cell? ⟨w.heap.size + 1, 2, none⟩ = some (.int .i64 r) ∧ W.cell? ⟨w.heap.size + 1, 3, none⟩ = some (.int .i64 f)) (by kernel_rfl) (HS.out _ HB.out) (fun hS0 => ?_)
  refine takeG (i := 0) (d := 36) (v := ?vr0) rfl rfl (by kernel_rfl) (by kernel_rfl) (by kernel_rfl) (fun _ _ _ h => h) (by kernel_rfl) ?hr0 (by assumption) ?rr0
  case hr0 =>
    intro w hSw
    obtain ⟨s0, s1, s2, s3, s4, s5⟩ := hSw
    go_simp
    try with_reducible rfl
  simp only [List.setIfInBounds_toArray, List.set_cons_zero, List.set_cons_succ]
  refine takeG (i := 2) (d := 38) (v := ?vr2) rfl rfl (by kernel_rfl) (by kernel_rfl) (by kernel_rfl) (fun _ _ _ h => h) (by kernel_rfl) ?hr2 (by assumption) ?rr2
  case hr2 =>
    intro w hSw
    obtain ⟨s0, s1, s2, s3, s4, s5⟩ := hSw
    go_simp
    try with_reducible rfl
  simp only [List.setIfInBounds_toArray, List.set_cons_zero, List.set_cons_succ]
  refine takeG (i := 3) (d := 39) (v := ?vr3) rfl rfl (by kernel_rfl) (by kernel_rfl) (by kernel_rfl) (fun _ _ _ h => h) (by kernel_rfl) ?hr3 (by assumption) ?rr3
  case hr3 =>
    intro w hSw
    obtain ⟨s0, s1, s2, s3, s4, s5⟩ := hSw
    go_simp
    try with_reducible rfl
  simp only [List.setIfInBounds_toArray, List.set_cons_zero, List.set_cons_succ]
  refine takeG (i := 4) (d := 40) (v := ?vr4) rfl rfl (by kernel_rfl) (by kernel_rfl) (by kernel_rfl) (fun _ _ _ h => h) (by kernel_rfl) ?hr4 (by assumption) ?rr4
  case hr4 =>
    intro w hSw
    obtain ⟨s0, s1, s2, s3, s4, s5⟩ := hSw
    go_simp
    try with_reducible rfl
  simp only [List.setIfInBounds_toArray, List.set_cons_zero, List.set_cons_succ]
  refine wpAnyH_ready (rs := [1]) (by kernel_rfl) (by simp) ?_
  refine AllReadyH.cons rfl (fun K hK => ?_) AllReadyH.nil
  go_simp
  go_at_call 15
  with_reducible refine (HTOP.out _).mono ?_
  rintro e w3 ⟨⟨vt, rfl, ho⟩, hb⟩
  have HO : Hid (w3.ownsRow Y.heap.size 5 1 vt HD.length (u8s HD)) := own_base ho.out HB.out.size
  replace HB := Lib.hid (HB.out.trans (hb.mono HB.out.size))
  clear hb ho
  go_simp
  refine hK.out _ _ (HS.out _ HB.out) (fun hS1 => ?_)
  clear hK K
  refine wpAnyH_ready (rs := [5]) (by kernel_rfl) (by simp) ?_
  refine AllReadyH.cons rfl (fun K hK => ?_) AllReadyH.nil
  go_simp
  go_at_call 16
  with_reducible refine (HPR.out _ (HRS.out _ HB.out) (HRP.out _ HB.out)).mono ?_
  rintro e w4 ⟨⟨g4, c4, rfl, hr4⟩, hb⟩
  have HR4 := Lib.hid hr4
  replace HO : Hid (w4.ownsRow Y.heap.size 5 1 vt HD.length (u8s HD)) := own_below HO.out hb (fun g hg => (HO.out.lt g hg).2)
  replace HB := Lib.hid (HB.out.trans (hb.mono HB.out.size))
  clear hb hr4
  go_simp
  refine hK.out _ _ (HS.out _ HB.out) (fun hS2 => ?_)
  clear hK K
  refine wpAnyH_ready (rs := [6]) (by kernel_rfl) (by simp) ?_
  refine AllReadyH.cons rfl (fun K hK => ?_) AllReadyH.nil
  rw [if_pos (by kernel_rfl)]
  refine wp_append_grow hi hz0 hz1 hz2 (.tmp 37) (.tmp 41) rfl Y.heap.size _ HD rfl HO.out rfl HFL.out HR4.out (by rw [HDL.out, HFL.out]; decide) HB.out.size ?_
  intro v5 w5 ho5 hg5
  replace HB := Lib.hid (HB.out.grown hg5.out HB.out.size (fun k hk => (HO.out.lt k hk).1))
  clear HO HR4 hg5
  refine hK.out _ _ (HS.out _ HB.out) (fun hS3 => ?_)
  clear hK K
  simp only [Act.put, List.setIfInBounds_toArray, List.set_cons_zero, List.set_cons_succ]
  refine takeG (i := 7) (d := 10) (v := ?vr7) rfl rfl (by kernel_rfl) (by kernel_rfl) (by kernel_rfl) (fun _ _ _ h => h) (by kernel_rfl) ?hr7 (by assumption) ?rr7
  case hr7 =>
    intro w hSw
    obtain ⟨s0, s1, s2, s3, s4, s5⟩ := hSw
    go_simp
    try with_reducible rfl
  simp only [List.setIfInBounds_toArray, List.set_cons_zero, List.set_cons_succ]
  refine wpAnyH_done (by kernel_rfl) ?_ _
  clear hS0 hS1 hS2 hS3
  have ho5' := ho5.out
  have hrp5 := HRP.out _ HB.out
  have hbs5 := HB.out.size
  go_wp2_with (at_builtin; refine wpList_append_bytes (bs := pk) (n₀ := w5.heap.size) hi hz0 hz1 hz2 rfl _ _ rfl Y.heap.size _ (HD ++ FP) rfl ho5' rfl rfl hrp5 ?c2 hbs5 ?_)
  case c2 => rw [HLL.out]; omega
  intro v6 w6 HO6 HB6
  go_wp2
  go_ret2
  refine ⟨⟨v6, rfl, ?_⟩, HBY.out.trans ((HB.out.trans HB6.out).mono HBY.out.size)⟩
  have h6 := own_base HO6.out HBY.out.size
  unfold Hid
  rw [List.append_assoc, List.length_append, List.length_append]
  exact h6
set_option maxHeartbeats 400000 in
set_option maxRecDepth 100000 in
theorem rwrap_ok0f (id : Int) (sA : Option Addr) (sc : Nat) (sec : List Nat) (hsb : ∀ x ∈ sec, x < 256) (hsl : sec.length ≤ 1000000) (k l r f : Nat) (h1 : okO k l r f) (hk0 : (k : Int) = 0) (h2 : ¬ okK id sec.length) (pA : Option Addr) (pc : Nat) (pk : List Nat) (hpb : ∀ x ∈ pk, x < 256) (hpl : pk.length ≤ 4096) (w : World) (hrs : RdN w.heap.size w sA sec) (hrp : RdN w.heap.size w pA pk) :
    Calls Tryd.prog 6 #[.agg #[.int .i64 id, .slice sA sec.length sc], .agg #[.int .i64 k, .int .i64 l, .int .i64 r, .int .i64 f], .slice pA pk.length pc] w fun e w' => (∃ v', e = .returned (.tuple #[v', .int .i64 0]) ∧ Hid (w'.ownsRow w.heap.size 5 1 v' (wrapL k l r f sec pk).length (u8s (wrapL k l r f sec pk)))) ∧ Below w.heap.size w w' := by
  obtain ⟨i0, hi, hz0, hz1, hz2⟩ := info_parts Tryd.info5
  have hb4 : k < 256 ∧ l < 65536 ∧ r < 65536 ∧ f < 4294967296 := by unfold okO okIn at h1; omega
  have hO := rokO_any k l r f
  have hK := fun W => rokK_any id sA sec.length sc (by omega) W
  have htop := fun W => top_any k l r f hb4.1 hb4.2.1 hb4.2.2.1 hb4.2.2.2 W
  have hpr := fun W (q1 : RdN (World.heap W).size W sA sec) (q2 : RdN W.heap.size W pA pk) => rprint_any id sA sc sec hsb hsl k l r f hb4.1 hb4.2.1 hb4.2.2.1 hb4.2.2.2 pA pc pk hpb (by omega) W q1 q2
  have hHDl := headL_len k l r f
  have hFPl := printL_len k sec (headL k l r f) pk
  have hwl : wrapL k l r f sec pk = (headL k l r f ++ printL k sec (headL k l r f) pk) ++ pk := by unfold wrapL; rw [List.append_assoc]
  rw [hwl]
  obtain ⟨FP, hFP⟩ : ∃ FP, printL k sec (headL k l r f) pk = FP := ⟨_, rfl⟩
  rw [hFP] at hpr hFPl
  rw [hFP]
  obtain ⟨HD, hHD⟩ : ∃ HD, headL k l r f = HD := ⟨_, rfl⟩
  rw [hHD] at htop hHDl
  rw [hHD]
  obtain ⟨kk, hkk⟩ : ∃ kk : Int, (k : Int) = kk := ⟨_, rfl⟩
  rw [hkk] at hO htop hpr h1 hk0
  rw [hkk]
  clear hkk
  have hll : (HD ++ FP).length = 27 := by rw [List.length_append, hHDl, hFPl]
  obtain ⟨Y, hY⟩ : ∃ Y, (w.alloc (.cells #[.int .i64 id, .slice sA sec.length sc] 24)).alloc (.cells #[.int .i64 kk, .int .i64 l, .int .i64 r, .int .i64 f] 26) = Y := ⟨_, rfl⟩
  have hBY : Below w.heap.size w Y := by rw [← hY]; exact ((Below.refl w.heap.size w).alloc (Nat.le_refl _) _).alloc (by simp) _
  have hYs : Y.heap.size = w.heap.size + 2 := by rw [← hY]; simp
  have hak : Arr Y w.heap.size 24 [.int .i64 id, .slice sA sec.length sc] := by rw [← hY]; exact (Arr.new w 24 [.int .i64 id, .slice sA sec.length sc]).alloc _
  have hao : Arr Y (w.heap.size + 1) 26 [.int .i64 kk, .int .i64 l, .int .i64 r, .int .i64 f] := by rw [← hY]; exact Arr.new2 w (.cells #[.int .i64 id, .slice sA sec.length sc] 24) 26 [.int .i64 kk, .int .i64 l, .int .i64 r, .int .i64 f]
  have HAK : Hid (∀ W, Below Y.heap.size Y W → Arr W w.heap.size 24 [.int .i64 id, .slice sA sec.length sc]) := fun W h => hak.below h (by omega)
  have HAO : Hid (∀ W, Below Y.heap.size Y W → Arr W (w.heap.size + 1) 26 [.int .i64 kk, .int .i64 l, .int .i64 r, .int .i64 f]) := fun W h => hao.below h (by omega)
  have HS : Hid (∀ W, Below Y.heap.size Y W → W.cell? ⟨w.heap.size, 0, none⟩ = some (.int .i64 id) ∧ W.cell? ⟨w.heap.size, 1, none⟩ = some (.slice sA sec.length sc) ∧ W.cell? ⟨w.heap.size + 1, 0, none⟩ = some (.int .i64 kk) ∧ W.cell? ⟨w.heap.size + 1, 1, none⟩ = some (.int .i64 l) ∧ W.cell? ⟨w.heap.size + 1, 2, none⟩ = some (.int .i64 r) ∧ W.cell? ⟨w.heap.size + 1, 3, none⟩ = some (.int .i64 f)) := fun W hW =>
    ⟨(HAK.out W hW).cell 0, (HAK.out W hW).cell 1, (HAO.out W hW).cell 0, (HAO.out W hW).cell 1, (HAO.out W hW).cell 2, (HAO.out W hW).cell 3⟩
  have HRS : Hid (∀ W, Below Y.heap.size Y W → RdN W.heap.size W sA sec) := fun W h => ((hrs.below hBY (Nat.le_refl _)).below h (by omega)).mono (by have := h.size; omega)
  have HRP : Hid (∀ W, Below Y.heap.size Y W → RdN W.heap.size W pA pk) := fun W h => ((hrp.below hBY (Nat.le_refl _)).below h (by omega)).mono (by have := h.size; omega)
  have HBY := Lib.hid hBY
  have B0 := Lib.hid (Below.refl Y.heap.size Y)
  have HTOP := Lib.hid htop
  have HPR := Lib.hid hpr
  have HDL := Lib.hid hHDl
  have HFL := Lib.hid hFPl
  have HLL := Lib.hid hll
  clear hBY hYs hak hao hrs hrp htop hpr hHD hFP hwl hsb hpb hHDl hFPl hll hb4
  have H1 := Lib.hid h1
  have H2 := Lib.hid h2
  subst hk0
  clear h2
  clear h1
  have HNU : ∀ b : Bool, (some undef = some (Value.bool b)) = False := fun b => eq_false (fun h => by cases h)
  have HNV : ∀ b : Bool, (undef = Value.bool b) = False := fun b => eq_false (fun h => by cases h)
  go_enter Tryd.func6, Tryd.ntmps6
  go_wp2_with (first
    | (refine wpList_load_arr rfl 26 (.tmp 4) rfl (w.heap.size + 1) rfl (HAO.out _ B0.out) Tryd.underlying26 rfl sizeO rfl ?_)
    | (go_at_call 13; refine (hO Y).mono ?_; rintro e w1 ⟨⟨x, rfl, hx⟩, hb1⟩; obtain rfl : x = true := hx.2 H1.out; have B1 := Lib.hid (B0.out.trans hb1); clear hx hb1)
    | (refine wpList_load_arr rfl 24 (.tmp 3) rfl w.heap.size rfl (HAK.out _ B1.out) Tryd.underlying24 rfl sizeK rfl ?_)
    | (go_at_call 14; refine (hK w1).mono ?_; rintro e w2 ⟨⟨y, rfl, hy⟩, hb2⟩; obtain rfl : y = false := (by cases y; rfl; exact absurd (hy.1 rfl) H2.out); have B2 := Lib.hid (B1.out.trans (hb2.mono B1.out.size)); have co2 := (HAO.out _ B2.out).cell 0; have ck2 := (HAK.out _ B2.out).cell 0; simp only [List.getElem?_cons_zero] at co2 ck2; clear hy hb2))
  have HB := Lib.hid (B2.out.drew)
  clear co2 ck2
  refine wp_region_held_drew (S := fun W => W.cell? ⟨w.heap.size, 0, none⟩ = some (.int .i64 id) ∧ W.cell? ⟨w.heap.size, 1, none⟩ = some (.slice sA sec.length sc) ∧ W.cell? ⟨w.heap.size + 1, 0, none⟩ = some (.int .i64 0) ∧ W.cell? ⟨w.heap.size + 1, 1, none⟩ = some (.int .i64 l) ∧ W.cell? ⟨w.heap.size + 1, 2, none⟩ = some (.int .i64 r) ∧ W.cell? ⟨w.heap.size + 1, 3, none⟩ = some (.int .i64 f)) (by kernel_rfl) (HS.out _ HB.out) (fun hS0 => ?_)
  refine takeG (i := 0) (d := 36) (v := ?vr0) rfl rfl (by kernel_rfl) (by kernel_rfl) (by kernel_rfl) (fun _ _ _ h => h) (by kernel_rfl) ?hr0 (by assumption) ?rr0
  case hr0 =>
    intro w hSw
    obtain ⟨s0, s1, s2, s3, s4, s5⟩ := hSw
    go_simp
    try with_reducible rfl
  simp only [List.setIfInBounds_toArray, List.set_cons_zero, List.set_cons_succ]
  refine takeG (i := 2) (d := 38) (v := ?vr2) rfl rfl (by kernel_rfl) (by kernel_rfl) (by kernel_rfl) (fun _ _ _ h => h) (by kernel_rfl) ?hr2 (by assumption) ?rr2
  case hr2 =>
    intro w hSw
    obtain ⟨s0, s1, s2, s3, s4, s5⟩ := hSw
    go_simp
    try with_reducible rfl
  simp only [List.setIfInBounds_toArray, List.set_cons_zero, List.set_cons_succ]
  refine takeG (i := 3) (d := 39) (v := ?vr3) rfl rfl (by kernel_rfl) (by kernel_rfl) (by kernel_rfl) (fun _ _ _ h => h) (by kernel_rfl) ?hr3 (by assumption) ?rr3
  case hr3 =>
    intro w hSw
    obtain ⟨s0, s1, s2, s3, s4, s5⟩ := hSw
    go_simp
    try with_reducible rfl
  simp only [List.setIfInBounds_toArray, List.set_cons_zero, List.set_cons_succ]
  refine takeG (i := 4) (d := 40) (v := ?vr4) rfl rfl (by kernel_rfl) (by kernel_rfl) (by kernel_rfl) (fun _ _ _ h => h) (by kernel_rfl) ?hr4 (by assumption) ?rr4
  case hr4 =>
    intro w hSw
    obtain ⟨s0, s1, s2, s3, s4, s5⟩ := hSw
    go_simp
    try with_reducible rfl
  simp only [List.setIfInBounds_toArray, List.set_cons_zero, List.set_cons_succ]
  refine wpAnyH_ready (rs := [1]) (by kernel_rfl) (by simp) ?_
  refine AllReadyH.cons rfl (fun K hK => ?_) AllReadyH.nil
  go_simp
  go_at_call 15
  with_reducible refine (HTOP.out _).mono ?_
  rintro e w3 ⟨⟨vt, rfl, ho⟩, hb⟩
  have HO : Hid (w3.ownsRow Y.heap.size 5 1 vt HD.length (u8s HD)) := own_base ho.out HB.out.size
  replace HB := Lib.hid (HB.out.trans (hb.mono HB.out.size))
  clear hb ho
  go_simp
  refine hK.out _ _ (HS.out _ HB.out) (fun hS1 => ?_)
  clear hK K
  refine wpAnyH_ready (rs := [5]) (by kernel_rfl) (by simp) ?_
  refine AllReadyH.cons rfl (fun K hK => ?_) AllReadyH.nil
  go_simp
  go_at_call 16
  with_reducible refine (HPR.out _ (HRS.out _ HB.out) (HRP.out _ HB.out)).mono ?_
  rintro e w4 ⟨⟨g4, c4, rfl, hr4⟩, hb⟩
  have HR4 := Lib.hid hr4
  replace HO : Hid (w4.ownsRow Y.heap.size 5 1 vt HD.length (u8s HD)) := own_below HO.out hb (fun g hg => (HO.out.lt g hg).2)
  replace HB := Lib.hid (HB.out.trans (hb.mono HB.out.size))
  clear hb hr4
  go_simp
  refine hK.out _ _ (HS.out _ HB.out) (fun hS2 => ?_)
  clear hK K
  refine wpAnyH_ready (rs := [6]) (by kernel_rfl) (by simp) ?_
  refine AllReadyH.cons rfl (fun K hK => ?_) AllReadyH.nil
  rw [if_pos (by kernel_rfl)]
  refine wp_append_grow hi hz0 hz1 hz2 (.tmp 37) (.tmp 41) rfl Y.heap.size _ HD rfl HO.out rfl HFL.out HR4.out (by rw [HDL.out, HFL.out]; decide) HB.out.size ?_
  intro v5 w5 ho5 hg5
  replace HB := Lib.hid (HB.out.grown hg5.out HB.out.size (fun k hk => (HO.out.lt k hk).1))
  clear HO HR4 hg5
  refine hK.out _ _ (HS.out _ HB.out) (fun hS3 => ?_)
  clear hK K
  simp only [Act.put, List.setIfInBounds_toArray, List.set_cons_zero, List.set_cons_succ]
  refine takeG (i := 7) (d := 10) (v := ?vr7) rfl rfl (by kernel_rfl) (by kernel_rfl) (by kernel_rfl) (fun _ _ _ h => h) (by kernel_rfl) ?hr7 (by assumption) ?rr7
  case hr7 =>
    intro w hSw
    obtain ⟨s0, s1, s2, s3, s4, s5⟩ := hSw
    go_simp
    try with_reducible rfl
  simp only [List.setIfInBounds_toArray, List.set_cons_zero, List.set_cons_succ]
  refine wpAnyH_done (by kernel_rfl) ?_ _
  clear hS0 hS1 hS2 hS3
  have ho5' := ho5.out
  have hrp5 := HRP.out _ HB.out
  have hbs5 := HB.out.size
  go_wp2_with (at_builtin; refine wpList_append_bytes (bs := pk) (n₀ := w5.heap.size) hi hz0 hz1 hz2 rfl _ _ rfl Y.heap.size _ (HD ++ FP) rfl ho5' rfl rfl hrp5 ?c2 hbs5 ?_)
  case c2 => rw [HLL.out]; omega
  intro v6 w6 HO6 HB6
  go_wp2
  go_ret2
  refine ⟨⟨v6, rfl, ?_⟩, HBY.out.trans ((HB.out.trans HB6.out).mono HBY.out.size)⟩
  have h6 := own_base HO6.out HBY.out.size
  unfold Hid
  rw [List.append_assoc, List.length_append, List.length_append]
  exact h6
set_option maxHeartbeats 400000 in
set_option maxRecDepth 100000 in
theorem rwrap_ok1 (id : Int) (sA : Option Addr) (sc : Nat) (sec : List Nat) (hsb : ∀ x ∈ sec, x < 256) (hsl : sec.length ≤ 1000000) (k l r f : Nat) (h1 : okO k l r f) (hk0 : ¬ (k : Int) = 0) (h2 : okK id sec.length) (h3 : id = k) (pA : Option Addr) (pc : Nat) (pk : List Nat) (hpb : ∀ x ∈ pk, x < 256) (hpl : pk.length ≤ 4096) (w : World) (hrs : RdN w.heap.size w sA sec) (hrp : RdN w.heap.size w pA pk) :
    Calls Tryd.prog 6 #[.agg #[.int .i64 id, .slice sA sec.length sc], .agg #[.int .i64 k, .int .i64 l, .int .i64 r, .int .i64 f], .slice pA pk.length pc] w fun e w' => (∃ v', e = .returned (.tuple #[v', .int .i64 0]) ∧ Hid (w'.ownsRow w.heap.size 5 1 v' (wrapL k l r f sec pk).length (u8s (wrapL k l r f sec pk)))) ∧ Below w.heap.size w w' := by
  obtain ⟨i0, hi, hz0, hz1, hz2⟩ := info_parts Tryd.info5
  have hb4 : k < 256 ∧ l < 65536 ∧ r < 65536 ∧ f < 4294967296 := by unfold okO okIn at h1; omega
  have hO := rokO_any k l r f
  have hK := fun W => rokK_any id sA sec.length sc (by omega) W
  have htop := fun W => top_any k l r f hb4.1 hb4.2.1 hb4.2.2.1 hb4.2.2.2 W
  have hpr := fun W (q1 : RdN (World.heap W).size W sA sec) (q2 : RdN W.heap.size W pA pk) => rprint_any id sA sc sec hsb hsl k l r f hb4.1 hb4.2.1 hb4.2.2.1 hb4.2.2.2 pA pc pk hpb (by omega) W q1 q2
  have hHDl := headL_len k l r f
  have hFPl := printL_len k sec (headL k l r f) pk
  have hwl : wrapL k l r f sec pk = (headL k l r f ++ printL k sec (headL k l r f) pk) ++ pk := by unfold wrapL; rw [List.append_assoc]
  rw [hwl]
  obtain ⟨FP, hFP⟩ : ∃ FP, printL k sec (headL k l r f) pk = FP := ⟨_, rfl⟩
  rw [hFP] at hpr hFPl
  rw [hFP]
  obtain ⟨HD, hHD⟩ : ∃ HD, headL k l r f = HD := ⟨_, rfl⟩
  rw [hHD] at htop hHDl
  rw [hHD]
  obtain ⟨kk, hkk⟩ : ∃ kk : Int, (k : Int) = kk := ⟨_, rfl⟩
  rw [hkk] at hO htop hpr h1 hk0 h3
  rw [hkk]
  clear hkk
  have hll : (HD ++ FP).length = 27 := by rw [List.length_append, hHDl, hFPl]
  obtain ⟨Y, hY⟩ : ∃ Y, (w.alloc (.cells #[.int .i64 id, .slice sA sec.length sc] 24)).alloc (.cells #[.int .i64 kk, .int .i64 l, .int .i64 r, .int .i64 f] 26) = Y := ⟨_, rfl⟩
  have hBY : Below w.heap.size w Y := by rw [← hY]; exact ((Below.refl w.heap.size w).alloc (Nat.le_refl _) _).alloc (by simp) _
  have hYs : Y.heap.size = w.heap.size + 2 := by rw [← hY]; simp
  have hak : Arr Y w.heap.size 24 [.int .i64 id, .slice sA sec.length sc] := by rw [← hY]; exact (Arr.new w 24 [.int .i64 id, .slice sA sec.length sc]).alloc _
  have hao : Arr Y (w.heap.size + 1) 26 [.int .i64 kk, .int .i64 l, .int .i64 r, .int .i64 f] := by rw [← hY]; exact Arr.new2 w (.cells #[.int .i64 id, .slice sA sec.length sc] 24) 26 [.int .i64 kk, .int .i64 l, .int .i64 r, .int .i64 f]
  have HAK : Hid (∀ W, Below Y.heap.size Y W → Arr W w.heap.size 24 [.int .i64 id, .slice sA sec.length sc]) := fun W h => hak.below h (by omega)
  have HAO : Hid (∀ W, Below Y.heap.size Y W → Arr W (w.heap.size + 1) 26 [.int .i64 kk, .int .i64 l, .int .i64 r, .int .i64 f]) := fun W h => hao.below h (by omega)
  have HS : Hid (∀ W, Below Y.heap.size Y W → W.cell? ⟨w.heap.size, 0, none⟩ = some (.int .i64 id) ∧ W.cell? ⟨w.heap.size, 1, none⟩ = some (.slice sA sec.length sc) ∧ W.cell? ⟨w.heap.size + 1, 0, none⟩ = some (.int .i64 kk) ∧ W.cell? ⟨w.heap.size + 1, 1, none⟩ = some (.int .i64 l) ∧ W.cell? ⟨w.heap.size + 1, 2, none⟩ = some (.int .i64 r) ∧ W.cell? ⟨w.heap.size + 1, 3, none⟩ = some (.int .i64 f)) := fun W hW =>
    ⟨(HAK.out W hW).cell 0, (HAK.out W hW).cell 1, (HAO.out W hW).cell 0, (HAO.out W hW).cell 1, (HAO.out W hW).cell 2, (HAO.out W hW).cell 3⟩
  have HRS : Hid (∀ W, Below Y.heap.size Y W → RdN W.heap.size W sA sec) := fun W h => ((hrs.below hBY (Nat.le_refl _)).below h (by omega)).mono (by have := h.size; omega)
  have HRP : Hid (∀ W, Below Y.heap.size Y W → RdN W.heap.size W pA pk) := fun W h => ((hrp.below hBY (Nat.le_refl _)).below h (by omega)).mono (by have := h.size; omega)
  have HBY := Lib.hid hBY
  have B0 := Lib.hid (Below.refl Y.heap.size Y)
  have HTOP := Lib.hid htop
  have HPR := Lib.hid hpr
  have HDL := Lib.hid hHDl
  have HFL := Lib.hid hFPl
  have HLL := Lib.hid hll
  clear hBY hYs hak hao hrs hrp htop hpr hHD hFP hwl hsb hpb hHDl hFPl hll hb4
  have H1 := Lib.hid h1
  have H2 := Lib.hid h2
  subst h3
  clear h2
  clear h1
  have HNU : ∀ b : Bool, (some undef = some (Value.bool b)) = False := fun b => eq_false (fun h => by cases h)
  have HNV : ∀ b : Bool, (undef = Value.bool b) = False := fun b => eq_false (fun h => by cases h)
  go_enter Tryd.func6, Tryd.ntmps6
  go_wp2_with (first
    | (refine wpList_load_arr rfl 26 (.tmp 4) rfl (w.heap.size + 1) rfl (HAO.out _ B0.out) Tryd.underlying26 rfl sizeO rfl ?_)
    | (go_at_call 13; refine (hO Y).mono ?_; rintro e w1 ⟨⟨x, rfl, hx⟩, hb1⟩; obtain rfl : x = true := hx.2 H1.out; have B1 := Lib.hid (B0.out.trans hb1); clear hx hb1)
    | (refine wpList_load_arr rfl 24 (.tmp 3) rfl w.heap.size rfl (HAK.out _ B1.out) Tryd.underlying24 rfl sizeK rfl ?_)
    | (go_at_call 14; refine (hK w1).mono ?_; rintro e w2 ⟨⟨y, rfl, hy⟩, hb2⟩; obtain rfl : y = true := hy.2 H2.out; have B2 := Lib.hid (B1.out.trans (hb2.mono B1.out.size)); have co2 := (HAO.out _ B2.out).cell 0; have ck2 := (HAK.out _ B2.out).cell 0; simp only [List.getElem?_cons_zero] at co2 ck2; clear hy hb2))
  have HB := Lib.hid (B2.out.drew)
  clear co2 ck2
  refine wp_region_held_drew (S := fun W => W.cell? ⟨w.heap.size, 0, none⟩ = some (.int .i64 id) ∧ W.cell? ⟨w.heap.size, 1, none⟩ = some (.slice sA sec.length sc) ∧ W.cell? ⟨w.heap.size + 1, 0, none⟩ = some (.int .i64 id) ∧ W.cell? ⟨w.heap.size + 1, 1, none⟩ = some (.int .i64 l) ∧ W.cell? ⟨w.heap.size + 1, 2, none⟩ = some (.int .i64 r) ∧ W.cell? ⟨w.heap.size + 1, 3, none⟩ = some (.int .i64 f)) (by kernel_rfl) (HS.out _ HB.out) (fun hS0 => ?_)
  refine takeG (i := 0) (d := 36) (v := ?vr0) rfl rfl (by kernel_rfl) (by kernel_rfl) (by kernel_rfl) (fun _ _ _ h => h) (by kernel_rfl) ?hr0 (by assumption) ?rr0
  case hr0 =>
    intro w hSw
    obtain ⟨s0, s1, s2, s3, s4, s5⟩ := hSw
    go_simp
    try with_reducible rfl
  simp only [List.setIfInBounds_toArray, List.set_cons_zero, List.set_cons_succ]
  refine takeG (i := 2) (d := 38) (v := ?vr2) rfl rfl (by kernel_rfl) (by kernel_rfl) (by kernel_rfl) (fun _ _ _ h => h) (by kernel_rfl) ?hr2 (by assumption) ?rr2
  case hr2 =>
    intro w hSw
    obtain ⟨s0, s1, s2, s3, s4, s5⟩ := hSw
    go_simp
    try with_reducible rfl
  simp only [List.setIfInBounds_toArray, List.set_cons_zero, List.set_cons_succ]
  refine takeG (i := 3) (d := 39) (v := ?vr3) rfl rfl (by kernel_rfl) (by kernel_rfl) (by kernel_rfl) (fun _ _ _ h => h) (by kernel_rfl) ?hr3 (by assumption) ?rr3
  case hr3 =>
    intro w hSw
    obtain ⟨s0, s1, s2, s3, s4, s5⟩ := hSw
    go_simp
    try with_reducible rfl
  simp only [List.setIfInBounds_toArray, List.set_cons_zero, List.set_cons_succ]
  refine takeG (i := 4) (d := 40) (v := ?vr4) rfl rfl (by kernel_rfl) (by kernel_rfl) (by kernel_rfl) (fun _ _ _ h => h) (by kernel_rfl) ?hr4 (by assumption) ?rr4
  case hr4 =>
    intro w hSw
    obtain ⟨s0, s1, s2, s3, s4, s5⟩ := hSw
    go_simp
    try with_reducible rfl
  simp only [List.setIfInBounds_toArray, List.set_cons_zero, List.set_cons_succ]
  refine wpAnyH_ready (rs := [1]) (by kernel_rfl) (by simp) ?_
  refine AllReadyH.cons rfl (fun K hK => ?_) AllReadyH.nil
  go_simp
  go_at_call 15
  with_reducible refine (HTOP.out _).mono ?_
  rintro e w3 ⟨⟨vt, rfl, ho⟩, hb⟩
  have HO : Hid (w3.ownsRow Y.heap.size 5 1 vt HD.length (u8s HD)) := own_base ho.out HB.out.size
  replace HB := Lib.hid (HB.out.trans (hb.mono HB.out.size))
  clear hb ho
  go_simp
  refine hK.out _ _ (HS.out _ HB.out) (fun hS1 => ?_)
  clear hK K
  refine wpAnyH_ready (rs := [5]) (by kernel_rfl) (by simp) ?_
  refine AllReadyH.cons rfl (fun K hK => ?_) AllReadyH.nil
  go_simp
  go_at_call 16
  with_reducible refine (HPR.out _ (HRS.out _ HB.out) (HRP.out _ HB.out)).mono ?_
  rintro e w4 ⟨⟨g4, c4, rfl, hr4⟩, hb⟩
  have HR4 := Lib.hid hr4
  replace HO : Hid (w4.ownsRow Y.heap.size 5 1 vt HD.length (u8s HD)) := own_below HO.out hb (fun g hg => (HO.out.lt g hg).2)
  replace HB := Lib.hid (HB.out.trans (hb.mono HB.out.size))
  clear hb hr4
  go_simp
  refine hK.out _ _ (HS.out _ HB.out) (fun hS2 => ?_)
  clear hK K
  refine wpAnyH_ready (rs := [6]) (by kernel_rfl) (by simp) ?_
  refine AllReadyH.cons rfl (fun K hK => ?_) AllReadyH.nil
  rw [if_pos (by kernel_rfl)]
  refine wp_append_grow hi hz0 hz1 hz2 (.tmp 37) (.tmp 41) rfl Y.heap.size _ HD rfl HO.out rfl HFL.out HR4.out (by rw [HDL.out, HFL.out]; decide) HB.out.size ?_
  intro v5 w5 ho5 hg5
  replace HB := Lib.hid (HB.out.grown hg5.out HB.out.size (fun k hk => (HO.out.lt k hk).1))
  clear HO HR4 hg5
  refine hK.out _ _ (HS.out _ HB.out) (fun hS3 => ?_)
  clear hK K
  simp only [Act.put, List.setIfInBounds_toArray, List.set_cons_zero, List.set_cons_succ]
  refine takeG (i := 7) (d := 10) (v := ?vr7) rfl rfl (by kernel_rfl) (by kernel_rfl) (by kernel_rfl) (fun _ _ _ h => h) (by kernel_rfl) ?hr7 (by assumption) ?rr7
  case hr7 =>
    intro w hSw
    obtain ⟨s0, s1, s2, s3, s4, s5⟩ := hSw
    go_simp
    try with_reducible rfl
  simp only [List.setIfInBounds_toArray, List.set_cons_zero, List.set_cons_succ]
  refine wpAnyH_done (by kernel_rfl) ?_ _
  clear hS0 hS1 hS2 hS3
  have ho5' := ho5.out
  have hrp5 := HRP.out _ HB.out
  have hbs5 := HB.out.size
  go_wp2_with (at_builtin; refine wpList_append_bytes (bs := pk) (n₀ := w5.heap.size) hi hz0 hz1 hz2 rfl _ _ rfl Y.heap.size _ (HD ++ FP) rfl ho5' rfl rfl hrp5 ?c2 hbs5 ?_)
  case c2 => rw [HLL.out]; omega
  intro v6 w6 HO6 HB6
  go_wp2
  go_ret2
  refine ⟨⟨v6, rfl, ?_⟩, HBY.out.trans ((HB.out.trans HB6.out).mono HBY.out.size)⟩
  have h6 := own_base HO6.out HBY.out.size
  unfold Hid
  rw [List.append_assoc, List.length_append, List.length_append]
  exact h6
theorem rwrap_ok (id : Int) (sA : Option Addr) (sc : Nat) (sec : List Nat) (hsb : ∀ x ∈ sec, x < 256) (hsl : sec.length ≤ 1000000) (k l r f : Nat) (ho : okO k l r f) (hw : okW id sec.length k) (pA : Option Addr) (pc : Nat) (pk : List Nat) (hpb : ∀ x ∈ pk, x < 256) (hpl : pk.length ≤ 4096) (w : World) (hrs : RdN w.heap.size w sA sec) (hrp : RdN w.heap.size w pA pk) :
    Calls Tryd.prog 6 #[.agg #[.int .i64 id, .slice sA sec.length sc], .agg #[.int .i64 k, .int .i64 l, .int .i64 r, .int .i64 f], .slice pA pk.length pc] w fun e w' => (∃ v', e = .returned (.tuple #[v', .int .i64 0]) ∧ Hid (w'.ownsRow w.heap.size 5 1 v' (wrapL k l r f sec pk).length (u8s (wrapL k l r f sec pk)))) ∧ Below w.heap.size w w' := by
  by_cases hk0 : (k : Int) = 0
  · by_cases h2 : okK id sec.length
    · exact rwrap_ok0t id sA sc sec hsb hsl k l r f ho hk0 h2 pA pc pk hpb hpl w hrs hrp
    · exact rwrap_ok0f id sA sc sec hsb hsl k l r f ho hk0 h2 pA pc pk hpb hpl w hrs hrp
  · rcases hw with h | ⟨h2, h3⟩
    · exact absurd h hk0
    · exact rwrap_ok1 id sA sc sec hsb hsl k l r f ho hk0 h2 h3 pA pc pk hpb hpl w hrs hrp
end Go.Proofs.YtnmaelojgabheaaDoor
