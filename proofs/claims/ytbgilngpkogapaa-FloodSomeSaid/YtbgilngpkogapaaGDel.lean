/-
  THE LIBRARY'S DeleteFunc over the five rules.
-/
import Derived.Test.YtbgilngpkogapaaGAl
namespace Go.Proofs.Ytbgilngpkogapaa.ti
set_option linter.unusedSimpArgs false
set_option linter.unusedVariables false
open Go.RowKit
def allG : List Nat := [0, 1, 2, 3, 4]
def keptG (x : Int) (j : Nat) : List Nat := (allG.take j).filter fun k => decide (sideG k = x)
def rowG (x : Int) (j : Nat) : List Nat := keptG x j ++ allG.drop (keptG x j).length
def sideOk (x : Int) : Prop := x = -1 ∨ x = 0 ∨ x = 1
theorem five {p : Nat → Prop} (h0 : p 0) (h1 : p 1) (h2 : p 2) (h3 : p 3) (h4 : p 4) (j : Nat) (hj : j < 5) : p j := by
  match j, hj with
  | 0, _ => exact h0
  | 1, _ => exact h1
  | 2, _ => exact h2
  | 3, _ => exact h3
  | 4, _ => exact h4
theorem kept_step {x : Int} (hx : sideOk x) (j : Nat) (hj : j < 5) : (rowG x j)[j]? = some j ∧ (rowG x j).length = 5 ∧ (keptG x j).length ≤ j ∧ (if sideG j = x then keptG x (j + 1) = keptG x j ++ [j] ∧ rowG x (j + 1) = (rowG x j).set (keptG x j).length j else keptG x (j + 1) = keptG x j ∧ rowG x (j + 1) = rowG x j) := by
  rcases hx with rfl | rfl | rfl
  · exact five (p := fun j => (rowG (-1) j)[j]? = some j ∧ (rowG (-1) j).length = 5 ∧ (keptG (-1) j).length ≤ j ∧ (if sideG j = -1 then keptG (-1) (j + 1) = keptG (-1) j ++ [j] ∧ rowG (-1) (j + 1) = (rowG (-1) j).set (keptG (-1) j).length j else keptG (-1) (j + 1) = keptG (-1) j ∧ rowG (-1) (j + 1) = rowG (-1) j)) (by decide) (by decide) (by decide) (by decide) (by decide) j hj
  · exact five (p := fun j => (rowG 0 j)[j]? = some j ∧ (rowG 0 j).length = 5 ∧ (keptG 0 j).length ≤ j ∧ (if sideG j = 0 then keptG 0 (j + 1) = keptG 0 j ++ [j] ∧ rowG 0 (j + 1) = (rowG 0 j).set (keptG 0 j).length j else keptG 0 (j + 1) = keptG 0 j ∧ rowG 0 (j + 1) = rowG 0 j)) (by decide) (by decide) (by decide) (by decide) (by decide) j hj
  · exact five (p := fun j => (rowG 1 j)[j]? = some j ∧ (rowG 1 j).length = 5 ∧ (keptG 1 j).length ≤ j ∧ (if sideG j = 1 then keptG 1 (j + 1) = keptG 1 j ++ [j] ∧ rowG 1 (j + 1) = (rowG 1 j).set (keptG 1 j).length j else keptG 1 (j + 1) = keptG 1 j ∧ rowG 1 (j + 1) = rowG 1 j)) (by decide) (by decide) (by decide) (by decide) (by decide) j hj
theorem kept_end {x : Int} (hx : sideOk x) : (keptG x 5).length ≤ 2 := by
  rcases hx with rfl | rfl | rfl <;> decide
theorem kept_first {x : Int} (hx : sideOk x) {i : Int} (h : FirstG (fun k => sideG k != x) allG i) : ∃ n : Nat, i = n ∧ n < 5 ∧ (keptG x (n + 1)).length = n ∧ rowG x (n + 1) = allG := by
  rcases h with ⟨_, h⟩ | ⟨j, k, rfl, hj, hk, hf⟩
  · exfalso
    rcases hx with rfl | rfl | rfl
    · have := h 0 (by decide); revert this; decide
    · have := h 0 (by decide); revert this; decide
    · have := h 1 (by decide); revert this; decide
  · have hl : j < 5 := (List.getElem?_eq_some_iff.1 hj).1
    refine ⟨j, rfl, hl, ?_⟩
    rcases hx with rfl | rfl | rfl
    · match j, hl with
      | 0, _ => decide
      | j + 1, _ => exfalso; have := hf 0 0 (by omega) rfl; revert this; decide
    · match j, hl with
      | 0, _ => decide
      | j + 1, _ => exfalso; have := hf 0 0 (by omega) rfl; revert this; decide
    · match j, hl with
      | 0, _ => exfalso; cases hj; revert hk; decide
      | 1, _ => decide
      | j + 2, _ => exfalso; have := hf 1 1 (by omega) rfl; revert this; decide
/-- All blocks but one are as they were. -/
structure But (b : Nat) (W W' : World) : Prop where
  os : W'.os = W.os
  tape : W'.tape = W.tape
  output : W'.output = W.output
  size : W.heap.size ≤ W'.heap.size
  block : ∀ i, i < W.heap.size → i ≠ b → W'.heap[i]? = W.heap[i]?
theorem But.refl (b : Nat) (W : World) : But b W W := ⟨rfl, rfl, rfl, Nat.le_refl _, fun _ _ _ => rfl⟩
theorem But.trans {b : Nat} {X Y Z : World} (h : But b X Y) (k : But b Y Z) : But b X Z :=
  ⟨k.os.trans h.os, k.tape.trans h.tape, k.output.trans h.output, Nat.le_trans h.size k.size, fun i hi a => (k.block i (Nat.lt_of_lt_of_le hi h.size) a).trans (h.block i hi a)⟩
theorem But.of_below {b : Nat} {X Y : World} (h : Below X.heap.size X Y) : But b X Y := ⟨h.os, h.tape, h.output, h.size, fun i hi _ => h.block i hi⟩
theorem But.below {b base : Nat} {X Y : World} (h : But b X Y) (h1 : base ≤ b) (h4 : base ≤ X.heap.size) : Below base X Y :=
  ⟨h.os, h.tape, h.output, h.size, fun i hi => h.block i (by omega) (by omega)⟩
theorem But.set {b : Nat} {X Y : World} (h : But b X Y) (i : Nat) (v : Value) : But b X (Y.setCell ⟨b, i, none⟩ v) :=
  h.trans ⟨rfl, rfl, rfl, by simp, fun j _ hj => heap_setCell_other _ _ _ _ hj⟩
theorem But.setCells {b : Nat} {X Y : World} (h : But b X Y) : ∀ (vs : List Value) (o : Nat), But b X (Y.setCells b o vs) := fun vs => by
  induction vs generalizing Y with
  | nil => exact fun o => h
  | cons v r ih => exact fun o => ih (h.set o v) (o + 1)
theorem But.arr {b : Nat} {X Y : World} (h : But b X Y) {g : Nat} {t : TypeId} {vs : List Value} (hA : Arr X g t vs) (hne : g ≠ b) : Arr Y g t vs := (h.block g hA.lt hne).trans hA
theorem Arr.but {b : Nat} {X Y : World} {t : TypeId} {vs : List Value} (hA : Arr X b t vs) (k : Below X.heap.size X Y) : Arr Y b t vs := hA.below k hA.lt
theorem encG_len (sb o1 o2 k : Nat) : (encG sb o1 o2 k).length = 3 := rfl
theorem rowG_set (sb o1 o2 : Nat) : ∀ {l : List Nat} {j x : Nat} (_ : l[j]? = some x) (y : Nat), rowE (encG sb o1 o2) (l.set j y) = (((rowE (encG sb o1 o2) l).set (j * 3) (.int .i64 (dirG y))).set (j * 3 + 1) (.int .i64 (sideG y))).set (j * 3 + 2) (fvG sb o1 o2 y)
  | [], j, x, hx, _ => by simp at hx
  | p :: l, 0, x, hx, y => by
    rw [List.set_cons_zero, rowE_cons, rowE_cons]
    rfl
  | p :: l, j + 1, x, hx, y => by
    rw [List.set_cons_succ, rowE_cons, rowE_cons, rowG_set sb o1 o2 (by simpa using hx) y]
    rw [show (j + 1) * 3 = j * 3 + 3 by omega, show j * 3 + 3 + 1 = j * 3 + 1 + 3 by omega, show j * 3 + 3 + 2 = j * 3 + 2 + 3 by omega]
    rfl
theorem rowG_at (sb o1 o2 : Nat) : ∀ {l : List Nat} {j k : Nat} (_ : l[j]? = some k) (i : Nat) (_ : i < 3), (rowE (encG sb o1 o2) l)[j * 3 + i]? = (encG sb o1 o2 k)[i]?
  | [], j, k, hx, _, _ => by simp at hx
  | p :: l, 0, k, hx, i, hi => by
    simp at hx; subst hx
    rw [rowE_cons, Nat.zero_mul, Nat.zero_add, List.getElem?_append_left (by rw [encG_len]; exact hi)]
  | p :: l, j + 1, k, hx, i, hi => by
    rw [rowE_cons, List.getElem?_append_right (by rw [encG_len]; omega), encG_len, show (j + 1) * 3 + i - 3 = j * 3 + i by omega]
    exact rowG_at sb o1 o2 (by simpa using hx) i hi
theorem rowG_len (sb o1 o2 : Nat) (l : List Nat) : (rowE (encG sb o1 o2) l).length = l.length * 3 := by
  induction l with
  | nil => rfl
  | cons p l ih => rw [rowE_cons, List.length_append, ih, encG_len, List.length_cons]; omega
theorem Arr.rdG {W : World} {rb sb o1 o2 : Nat} {l m : List Nat} (h : Arr W rb 51 (rowE (encG sb o1 o2) (l ++ m))) : RdE 3 (encG sb o1 o2) W (some ⟨rb, 0, none⟩) l := fun j k hj => by
  refine ⟨rb, 0, rfl, h.lt, fun i v hv => ?_⟩
  have hi : i < 3 := (List.getElem?_eq_some_iff.1 hv).1
  rw [Nat.zero_add, h.cell, rowG_at sb o1 o2 (l := l ++ m) (k := k) (by rw [List.getElem?_append_left (List.getElem?_eq_some_iff.1 hj).1]; exact hj) i hi]
  exact hv
theorem nat_ne (n : Nat) : ((n : Int) == -1) = false := by
  have : ¬ (n : Int) = -1 := by omega
  simp
theorem sizeR : (Try.prog.info? 51).map (·.size) = some 3 := by kernel_rfl
theorem zeroR : (Try.prog.info? 51).map (·.zero) = some (some (.agg #[.int .i64 0, .int .i64 0, .nilFunc])) := by kernel_rfl
theorem zero_run (W : World) : (zeroValue 51).run Try.prog W = .ok (.agg #[.int .i64 0, .int .i64 0, .nilFunc]) W := by
  have hz := zeroR
  cases hq : Try.prog.info? 51 with
  | none => simp [hq] at hz
  | some i =>
    simp [hq] at hz
    simp [zeroValue, typeInfo, hq, hz]
theorem zeros_one : ∀ i : Nat, i ≤ 2 → ∀ v ∈ (Builtin.zeroCells #[.int .i64 0, .int .i64 0, .nilFunc] (5 - i)).toList, v.oneCell' = true := fun i hi => by
  match i, hi with
  | 0, _ => simp [Builtin.zeroCells, Array.range, Value.oneCell']
  | 1, _ => simp [Builtin.zeroCells, Array.range, Value.oneCell']
  | 2, _ => simp [Builtin.zeroCells, Array.range, Value.oneCell']
theorem zeros_len (i : Nat) : (Builtin.zeroCells #[.int .i64 0, .int .i64 0, .nilFunc] (5 - i)).toList.length = (5 - i) * 3 := by
  simp [Builtin.zeroCells]
theorem run_clearG {W : World} {rb i : Nat} {vs : List Value} (h : Arr W rb 51 vs) (hl : vs.length = 15) (hi : i ≤ 2) (ty : TypeId) :
    (Builtin.clear_ #[44] ty #[.slice (some ⟨rb, i * 3, none⟩) (5 - i) (5 - i)]).run Try.prog W = .ok (.tuple #[]) (W.setCells rb (i * 3) (Builtin.zeroCells #[.int .i64 0, .int .i64 0, .nilFunc] (5 - i)).toList) := by
  have hst := run_storeCells_cells (P := Try.prog) rb (i * 3) (Builtin.zeroCells #[.int .i64 0, .int .i64 0, .nilFunc] (5 - i)).toList 0 W
    (fun j hj => by
      rw [zeros_len] at hj
      rw [Nat.add_zero, h.cell, List.getElem?_eq_getElem (by omega)]
      rfl) (fun j _ => h.frozen _) (zeros_one i hi)
  simp only [Nat.add_zero] at hst
  obtain ⟨m, hm⟩ : ∃ m, 5 - i = m + 1 := ⟨4 - i, by omega⟩
  rw [hm] at hst ⊢
  simp [Builtin.clear_, run_underlying Try.underlying44, zero_run, Value.cells, hst]
theorem Arr.cells3 {W : World} {g : Nat} {t : TypeId} {vs : List Value} (h : Arr W g t vs) (o : Nat) (a b c : Value) : Arr (W.setCells g o [a, b, c]) g t (((vs.set o a).set (o + 1) b).set (o + 2) c) := ((h.set o a).set (o + 1) b).set (o + 2) c
theorem fvG_one (sb o1 o2 k : Nat) : (fvG sb o1 o2 k).oneCell' = true := by
  match k with
  | 0 => rfl
  | 1 => rfl
  | 2 => rfl
  | 3 => rfl
  | k + 4 => rfl
theorem encG_one (sb o1 o2 k : Nat) : (encG sb o1 o2 k).toArray.all (·.oneCell') = true := all_oneCell_toArray fun v hv => by
  simp [encG] at hv
  rcases hv with rfl | rfl | rfl
  · rfl
  · rfl
  · exact fvG_one sb o1 o2 k
theorem there3 {W : World} {g : Nat} {t : TypeId} {vs : List Value} (h : Arr W g t vs) {o : Nat} (ho : o + 3 ≤ vs.length) : W.there g o 3 := fun j hj => ⟨by rw [h.cell, List.getElem?_eq_getElem (by omega)]; rfl, h.frozen _⟩
theorem rdG_clear {W : World} {rb sb o1 o2 : Nat} {l m : List Nat} (h : Arr W rb 51 (rowE (encG sb o1 o2) (l ++ m))) (us : List Value) : RdE 3 (encG sb o1 o2) (W.setCells rb (l.length * 3) us) (some ⟨rb, 0, none⟩) l := fun j k hj => by
  obtain ⟨g, o, e, hg, hc⟩ := h.rdG j k hj
  cases e
  have hjl := (List.getElem?_eq_some_iff.1 hj).1
  refine ⟨rb, 0, rfl, Nat.lt_of_lt_of_le hg ((But.refl rb W).setCells us (l.length * 3)).size, fun i v hv => ?_⟩
  have hi : i < 3 := (List.getElem?_eq_some_iff.1 hv).1
  rw [World.cell?_setCells_out rb us (l.length * 3) W ⟨rb, 0 + j * 3 + i, none⟩ (fun _ _ => .inl (by show 0 + j * 3 + i < l.length * 3; omega))]
  exact hc i v hv
set_option maxHeartbeats 3200000 in
set_option maxRecDepth 100000 in
theorem del_any (x : Int) (hx : sideOk x) (sb o1 o2 rb B : Nat) (w : World) (hA : Arr w rb 51 (rowE (encG sb o1 o2) allG)) (hc : w.cell? ⟨B, 0, none⟩ = some (.int .i64 x)) (hB : B < w.heap.size) (hne : B ≠ rb) :
    Calls Try.prog 26 #[.slice (some ⟨rb, 0, none⟩) 5 5, .func (.func 27) #[] #[.pointer (some ⟨B, 0, none⟩)]] w fun e w' => e = .returned (.slice (some ⟨rb, 0, none⟩) (keptG x 5).length 5) ∧ RdE 3 (encG sb o1 o2) w' (some ⟨rb, 0, none⟩) (keptG x 5) ∧ But rb w w' := by
  have hcB : ∀ W, But rb w W → W.cell? ⟨B, 0, none⟩ = some (.int .i64 x) := fun W hW => by
    have := hW.block B hB hne
    simp only [World.cell?, this] at hc ⊢
    exact hc
  have HI : Hid (Calls Try.prog 30 #[.slice (some ⟨rb, 0, none⟩) 5 5, .func (.func 27) #[] #[.pointer (some ⟨B, 0, none⟩)]] w fun e w' => ∃ i : Int, e = .returned (.int .i64 i) ∧ FirstG (fun k => sideG k != x) allG i ∧ Below w.heap.size w w') :=
    idxR (fun k => sideG k != x) sb o1 o2 B (some ⟨rb, 0, none⟩) 5 allG (by decide) w ((show Arr w rb 51 (rowE (encG sb o1 o2) (allG ++ [])) by rw [List.append_nil]; exact hA).rdG) (fun W hW k => r7_any B x _ _ _ W (hcB W (But.of_below hW)) (by have := hW.size; omega))
  have HCB := Lib.hid hcB
  have HA := Lib.hid hA
  have HX := Lib.hid hx
  clear hA hc hcB hx
  go_enter Try.func26, Try.ntmps26
  go_wp2_with (go_at_call 30; refine HI.out.mono ?_; rintro e w1 ⟨i, rfl, hf, hb1⟩; obtain ⟨n, rfl, hn5, hkn, hrn⟩ := kept_first HX.out hf; have HKN := Lib.hid hkn; have HRN := Lib.hid hrn; have B1 := Lib.hid hb1; have hne1 : ((n : Int) == -1) = false := nat_ne n; clear hf hb1 hkn hrn)
  go_loopw [5, 6] (fun iv jv wr => ∃ i j : Nat, iv = .int .i64 i ∧ jv = .int .i64 j ∧ j ≤ 5 ∧ Hid ((keptG x j).length = i) ∧ Hid (Arr wr rb 51 (rowE (encG sb o1 o2) (rowG x j))) ∧ Hid (But rb w wr)) (fun _ jv _ => 5 - (intOf jv).toNat)
  case atStart => exact ⟨n, n + 1, rfl, by go_num, by omega, HKN.out, by rw [HRN.out]; exact HA.out.but B1.out, But.of_below B1.out⟩
  case round =>
    obtain ⟨i, j, rfl, rfl, hj, HKI, HAR, HBT⟩ := hrel
    by_cases hlt : j < 5
    · obtain ⟨hat, hrl, hkl, hst⟩ := kept_step HX.out j hlt
      have HR := Lib.hid hrl
      have hd0 : wr.cell? ⟨rb, j * 3, none⟩ = some (.int .i64 (dirG j)) := by rw [HAR.out.cell]; exact rowG_at sb o1 o2 hat 0 (by omega)
      have hd1 : wr.cell? ⟨rb, j * 3 + 1, none⟩ = some (.int .i64 (sideG j)) := by rw [HAR.out.cell]; exact rowG_at sb o1 o2 hat 1 (by omega)
      have hd2 : wr.cell? ⟨rb, j * 3 + 2, none⟩ = some (fvG sb o1 o2 j) := by rw [HAR.out.cell]; exact rowG_at sb o1 o2 hat 2 (by omega)
      have hrb := HAR.out.lt
      have hij : i < 5 := by have := HKI.out; omega
      have hij2 : (i : Int) < 5 := by omega
      have hjj2 : (j : Int) < 5 := by omega
      have QB : Hid (∀ (W : World) (k : Nat), But rb w W → Calls Try.prog 27 #[.agg #[.int .i64 (dirG k), .int .i64 (sideG k), fvG sb o1 o2 k], .pointer (some ⟨B, 0, none⟩)] W fun e w' => e = .returned (.bool (sideG k != x)) ∧ Below W.heap.size W w') := fun W k hW => r7_any B x _ _ _ W (HCB.out W hW) (by have := hW.size; omega)
      have A0 : Hid (Arr (wr.alloc (.cells #[.int .i64 0, .int .i64 0, .nilFunc] 51)) wr.heap.size 51 [.int .i64 0, .int .i64 0, .nilFunc]) := Arr.new _ _ _
      have HLT := Lib.hid hrb
      by_cases hs : sideG j = x
      · rw [if_pos hs] at hst
        have HS := Lib.hid hs
        have HST := Lib.hid hst
        clear hs hst hat hrl hkl
        have HSF : Hid ((sideG j != x) = false) := by unfold Hid; rw [HS.out]; simp
        go_wp2_with (first
          | (refine wpList_store_arr rfl 51 (.tmp 7) (.tmp 25) rfl wr.heap.size rfl (vs := [.int .i64 (dirG j), .int .i64 (sideG j), fvG sb o1 o2 j]) rfl A0.out sizeR rfl rfl (encG_one sb o1 o2 j) ?_; intro W3 A3 B3 hsz3 O3; have B33 : Hid (Below wr.heap.size wr W3) := (below_box _ _).trans B3.out; have BT3 : Hid (But rb w W3) := HBT.out.trans (But.of_below B33.out); have AR3 := Lib.hid (HAR.out.below B33.out HLT.out))
          | (go_at_call 27; refine (QB.out _ j BT3.out).mono ?_; rintro e w2 ⟨rfl, hb2⟩; rw [HSF.out]; have BT2 := Lib.hid (BT3.out.trans (But.of_below hb2)); have AR2 := Lib.hid (AR3.out.below hb2 AR3.out.lt); have A2 := Lib.hid (A3.out.below hb2 A3.out.lt); clear hb2)
          | (refine wpList_load_arr rfl 51 (.tmp 7) rfl wr.heap.size rfl A2.out Try.underlying51 rfl sizeR rfl ?_)
          | (refine wpList_load_arr rfl 51 (.tmp 7) rfl wr.heap.size rfl A3.out Try.underlying51 rfl sizeR rfl ?_)
          | (refine wpList_store_mid rfl 51 (.tmp 33) (.tmp 32) rfl rb (i * 3) (encG sb o1 o2 j).toArray rfl rfl (there3 AR2.out (by rw [rowG_len, HR.out]; omega)) sizeR (encG_one sb o1 o2 j) ?_; have A9 : Hid (Arr (w2.setCells rb (i * 3) (encG sb o1 o2 j)) rb 51 _) := AR2.out.cells3 (i * 3) (.int .i64 (dirG j)) (.int .i64 (sideG j)) (fvG sb o1 o2 j); have B9 := Lib.hid (BT2.out.setCells (encG sb o1 o2 j) (i * 3)); obtain ⟨W9, hW9⟩ : ∃ W9, w2.setCells rb (i * 3) (encG sb o1 o2 j) = W9 := ⟨_, rfl⟩; rw [show w2.setCells rb (i * 3) (encG sb o1 o2 j).toArray.toList = W9 from hW9]; rw [hW9] at A9 B9; clear hW9))
        go_roundw
        case rel =>
          refine ⟨i + 1, j + 1, by go_num, by go_num, by omega, by rw [HST.out.1, List.length_append, HKI.out]; rfl, ?_, B9.out⟩
          rw [HST.out.2, HKI.out, rowG_set sb o1 o2 (List.getElem?_eq_getElem (by rw [HR.out]; omega)) j]
          exact A9.out
        case measure => simp [intOf]; omega
      · rw [if_neg hs] at hst
        have HS := Lib.hid hs
        have HST := Lib.hid hst
        clear hs hst hat hrl hkl
        have HSF : Hid ((sideG j != x) = true) := by have := HS.out; unfold Hid; simpa using this
        go_wp2_with (first
          | (refine wpList_store_arr rfl 51 (.tmp 7) (.tmp 25) rfl wr.heap.size rfl (vs := [.int .i64 (dirG j), .int .i64 (sideG j), fvG sb o1 o2 j]) rfl A0.out sizeR rfl rfl (encG_one sb o1 o2 j) ?_; intro W3 A3 B3 hsz3 O3; have B33 : Hid (Below wr.heap.size wr W3) := (below_box _ _).trans B3.out; have BT3 : Hid (But rb w W3) := HBT.out.trans (But.of_below B33.out); have AR3 := Lib.hid (HAR.out.below B33.out HLT.out))
          | (go_at_call 27; refine (QB.out _ j BT3.out).mono ?_; rintro e w2 ⟨rfl, hb2⟩; rw [HSF.out]; have BT2 := Lib.hid (BT3.out.trans (But.of_below hb2)); have AR2 := Lib.hid (AR3.out.below hb2 AR3.out.lt); have A2 := Lib.hid (A3.out.below hb2 A3.out.lt); clear hb2)
          | (refine wpList_load_arr rfl 51 (.tmp 7) rfl wr.heap.size rfl A2.out Try.underlying51 rfl sizeR rfl ?_)
          | (refine wpList_load_arr rfl 51 (.tmp 7) rfl wr.heap.size rfl A3.out Try.underlying51 rfl sizeR rfl ?_))
        go_roundw
        case rel => exact ⟨i, j + 1, rfl, by go_num, by omega, by rw [HST.out.1]; exact HKI.out, by rw [HST.out.2]; exact AR2.out, BT2.out⟩
        case measure => simp [intOf]; omega
    · obtain rfl : j = 5 := by omega
      have hi2 : i ≤ 2 := by have := kept_end HX.out; have := HKI.out; omega
      have hi5 : (i : Int) ≤ 5 := by omega
      have hn5 : ¬ 5 = i := by omega
      have hcl := run_clearG HAR.out (by rw [rowG_len, show (rowG x 5).length = 5 from by rcases HX.out with rfl | rfl | rfl <;> rfl]) hi2
      have HKE : Hid (RdE 3 (encG sb o1 o2) (wr.setCells rb (i * 3) (Builtin.zeroCells #[.int .i64 0, .int .i64 0, .nilFunc] (5 - i)).toList) (some ⟨rb, 0, none⟩) (keptG x 5)) := by
        have := rdG_clear HAR.out (Builtin.zeroCells #[.int .i64 0, .int .i64 0, .nilFunc] (5 - i)).toList
        rw [HKI.out] at this
        exact this
      have HBE : Hid (But rb w (wr.setCells rb (i * 3) (Builtin.zeroCells #[.int .i64 0, .int .i64 0, .nilFunc] (5 - i)).toList)) := HBT.out.setCells _ _
      obtain ⟨W9, hW9⟩ : ∃ W9, wr.setCells rb (i * 3) (Builtin.zeroCells #[.int .i64 0, .int .i64 0, .nilFunc] (5 - i)).toList = W9 := ⟨_, rfl⟩
      rw [hW9] at hcl HKE HBE
      clear hW9
      go_wp2
      go_ret
      exact ⟨by rw [HKI.out]; rfl, HKE.out, HBE.out⟩
end Go.Proofs.Ytbgilngpkogapaa.ti
