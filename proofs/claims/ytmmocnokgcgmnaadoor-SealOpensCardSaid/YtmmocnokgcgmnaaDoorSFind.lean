/-
  THE KEY IS FOUND: the closure, slices.IndexFunc, find.
-/
import Derived.Test.YtmmocnokgcgmnaaDoorSKeys
namespace Go.Proofs.YtmmocnokgcgmnaaDoor
open Go.RowKit
set_option maxHeartbeats 1600000 in
set_option maxRecDepth 100000 in
theorem match_any (id : Int) (B : Nat) (kid : Int) (sA : Option Addr) (n sc : Nat) (hn : n ≤ 9223372036854775807) (w : World) (hc : w.cell? ⟨B, 0, none⟩ = some (.int .i64 id)) (hB : B < w.heap.size) :
    Calls Tryd.prog 24 #[.agg #[.int .i64 kid, .slice sA n sc], .pointer (some ⟨B, 0, none⟩)] w fun e w' => Says e (kid = id ∧ okK kid n) ∧ Below w.heap.size w w' := by
  have hK := fun W => okK_any kid sA n sc hn W
  have BX := (Below.refl w.heap.size w).alloc (Nat.le_refl _) (.cells #[.int .i64 kid, .slice sA n sc] 26)
  have hcx := (BX.cell (p := ⟨B, 0, none⟩) hB).trans hc
  have HBX := Lib.hid BX
  have HLE : Hid (w.heap.size ≤ (w.alloc (.cells #[.int .i64 kid, .slice sA n sc] 26)).heap.size) := by unfold Hid; simp
  clear BX hc
  by_cases h : kid = id
  · subst h
    go_enter Tryd.func24, Tryd.ntmps24
    go_wp2_with (go_at_call 17; refine (hK _).mono ?_; rintro e w2 ⟨⟨x, rfl, hx⟩, hb2⟩; have HX := Lib.hid hx; have B2 := Lib.hid (HBX.out.trans (hb2.mono HLE.out)); clear hx hb2)
    go_ret
    exact ⟨Says.of (by rw [HX.out]; simp), B2.out⟩
  · have h2 : (kid == id) = false := by simpa using h
    go_enter Tryd.func24, Tryd.ntmps24
    go_wp2
    go_ret
    exact ⟨Says.no (fun hh => h hh.1), HBX.out⟩
/-- Which key of a row it is, if any. -/
def FirstK (id : Int) (ks : List KeyD) (i : Int) : Prop :=
  (i = -1 ∧ ∀ kd ∈ ks, ¬ (kd.id = id ∧ okK kd.id kd.n)) ∨ ∃ (j : Nat) (kd : KeyD), i = j ∧ ks[j]? = some kd ∧ (kd.id = id ∧ okK kd.id kd.n) ∧ ∀ (j' : Nat) (kd' : KeyD), j' < j → ks[j']? = some kd' → ¬ (kd'.id = id ∧ okK kd'.id kd'.n)
set_option maxHeartbeats 1600000 in
set_option maxRecDepth 100000 in
theorem index_any (id : Int) (B : Nat) (kA : Option Addr) (kc : Nat) (ks : List KeyD) (hkl : ks.length ≤ 9223372036854775807) (w : World) (hc : w.cell? ⟨B, 0, none⟩ = some (.int .i64 id)) (hB : B < w.heap.size) (hk : RdK w.heap.size w kA ks) :
    Calls Tryd.prog 23 #[.slice kA ks.length kc, .func (.func 24) #[] #[.pointer (some ⟨B, 0, none⟩)]] w fun e w' => (∃ i, Tells e i ∧ FirstK id ks i) ∧ Below w.heap.size w w' := by
  have HC := Lib.hid hc
  have HB0 := Lib.hid hB
  have HK := Lib.hid hk
  obtain ⟨m, hm⟩ : ∃ m, ks.length = m := ⟨_, rfl⟩
  have HM := Lib.hid hm
  rw [hm] at hkl ⊢
  clear hm hc hB hk
  go_enter Tryd.func23, Tryd.ntmps23
  go_wp2
  go_loopw [8] (fun iv wr => ∃ i : Nat, i ≤ m ∧ iv = .int .i64 i ∧ Hid (∀ (j : Nat) (kd : KeyD), j < i → ks[j]? = some kd → ¬ (kd.id = id ∧ okK kd.id kd.n)) ∧ Hid (Below w.heap.size w wr)) (fun iv _ => m - (intOf iv).toNat)
  case atStart => exact ⟨0, by omega, rfl, fun j kd hj => absurd hj (by omega), Below.refl _ _⟩
  case round =>
    obtain ⟨i, him, rfl, HN, HB⟩ := hrel
    by_cases hlt : i < m
    · obtain ⟨kd, hkd⟩ : ∃ kd, ks[i]? = some kd := ⟨_, List.getElem?_eq_getElem (by have := HM.out; omega)⟩
      obtain ⟨hn, Bk, off, rfl, hBk, hc0, hc1⟩ := HK.out i kd hkd
      have hd0 := (HB.out.cell (p := ⟨Bk, off + i * 2, none⟩) hBk).trans hc0
      have hd1 := (HB.out.cell (p := ⟨Bk, off + i * 2 + 1, none⟩) hBk).trans hc1
      have hcb := (HB.out.cell (p := ⟨B, 0, none⟩) HB0.out).trans HC.out
      have hma := match_any id B kd.id kd.a kd.n kd.c hn wr hcb (by have := HB.out.size; have := HB0.out; omega)
      have HKD := Lib.hid hkd
      clear hc0 hc1 hkd hcb
      go_wp2_with (go_at_call 24; refine hma.mono ?_; rintro e w2 ⟨⟨x, rfl, hx⟩, hb2⟩; have HX := Lib.hid hx; have B2 := Lib.hid (HB.out.trans (hb2.mono HB.out.size)); clear hx hb2)
      · rename_i hxt
        go_ret
        exact ⟨⟨_, rfl, .inr ⟨i, kd, rfl, HKD.out, HX.out.1 hxt, fun j' kd' h1 h2 => HN.out j' kd' h1 h2⟩⟩, B2.out⟩
      · rename_i hxt
        refine ⟨⟨i + 1, by omega, by go_num, fun j kd' hj hk => ?_, B2⟩, by simp [intOf]; omega⟩
        rcases Nat.lt_or_ge j i with h1 | h1
        · exact HN.out j kd' h1 hk
        · obtain rfl : j = i := by omega
          rw [HKD.out] at hk
          obtain rfl := Option.some.inj hk
          exact fun hh => by have h3 := HX.out.2 hh; rw [hxt] at h3; cases h3
    · obtain rfl : i = m := by omega
      go_wp2
      go_ret
      refine ⟨⟨-1, rfl, .inl ⟨rfl, fun kd hkd => ?_⟩⟩, HB.out⟩
      obtain ⟨j, hj⟩ := List.getElem?_of_mem hkd
      exact HN.out j kd (by have := (List.getElem?_eq_some_iff.1 hj).1; have := HM.out; omega) hj
theorem first_none {id : Int} {ks : List KeyD} {i : Int} (h : FirstK id ks i) (hn : ∀ kd ∈ ks, ¬ (kd.id = id ∧ okK kd.id kd.n)) : i = -1 := by
  rcases h with h | ⟨j, kd, _, hj, hm, _⟩
  · exact h.1
  · exact absurd hm (hn kd (List.mem_of_getElem? hj))
theorem first_some {id : Int} {ks : List KeyD} {i : Int} (h : FirstK id ks i) {j : Nat} {kd : KeyD} (hj : ks[j]? = some kd) (hm : kd.id = id ∧ okK kd.id kd.n) (hf : ∀ (j' : Nat) (kd' : KeyD), j' < j → ks[j']? = some kd' → ¬ (kd'.id = id ∧ okK kd'.id kd'.n)) : i = j := by
  rcases h with h | ⟨j2, kd2, rfl, hj2, hm2, hf2⟩
  · exact absurd hm (h.2 kd (List.mem_of_getElem? hj))
  · rcases Nat.lt_trichotomy j j2 with h1 | h1 | h1
    · exact absurd hm (hf2 j kd h1 hj)
    · rw [h1]
    · exact absurd hm2 (hf j2 kd2 h1 hj2)
set_option maxHeartbeats 1600000 in
set_option maxRecDepth 100000 in
theorem find_none (id : Int) (h0 : ¬ id = 0) (kA : Option Addr) (kc : Nat) (ks : List KeyD) (hkl : ks.length ≤ 9223372036854775807) (hno : ∀ kd ∈ ks, ¬ (kd.id = id ∧ okK kd.id kd.n)) (w : World) (hk : RdK w.heap.size w kA ks) :
    Calls Tryd.prog 11 #[.slice kA ks.length kc, .int .i64 id] w fun e w' => e = .returned (.tuple #[.agg #[.int .i64 0, .slice none 0 0], .bool false]) ∧ Below w.heap.size w w' := by
  obtain ⟨Y, hY⟩ : ∃ Y, (w.alloc (.cells #[.int .i64 id] 3)).alloc (.cells #[.int .i64 0, .slice none 0 0] 26) = Y := ⟨_, rfl⟩
  have AK : Hid (Arr Y (w.heap.size + 1) 26 [.int .i64 0, .slice none 0 0]) := by rw [← hY]; exact Arr.new2 w (.cells #[.int .i64 id] 3) 26 [.int .i64 0, .slice none 0 0]
  have ci : Y.cell? ⟨w.heap.size, 0, none⟩ = some (.int .i64 id) := by rw [← hY]; exact ((Arr.new w 3 [.int .i64 id]).alloc _).cell 0
  have hYs : Y.heap.size = w.heap.size + 2 := by rw [← hY]; simp
  have hBY : Below w.heap.size w Y := by rw [← hY]; exact ((Below.refl w.heap.size w).alloc (Nat.le_refl _) _).alloc (by simp) _
  have hkY : ∀ (j : Nat) (kd : KeyD), ks[j]? = some kd → kd.n ≤ 9223372036854775807 ∧ ∃ B off, kA = some ⟨B, off, none⟩ ∧ B < Y.heap.size ∧ Y.cell? ⟨B, off + j * 2, none⟩ = some (.int .i64 kd.id) ∧ Y.cell? ⟨B, off + j * 2 + 1, none⟩ = some (.slice kd.a kd.n kd.c) := fun j kd hj => by
    obtain ⟨h1, B, off, e, h2, h3, h4⟩ := hk j kd hj
    exact ⟨h1, B, off, e, by omega, (hBY.cell (p := ⟨B, _, none⟩) h2).trans h3, (hBY.cell (p := ⟨B, _, none⟩) h2).trans h4⟩
  have hix := index_any id w.heap.size kA kc ks hkl Y ci (by omega) hkY
  have HB := Lib.hid hBY
  have HKY := Lib.hid hkY
  have HLE : Hid (w.heap.size ≤ Y.heap.size) := by unfold Hid; omega
  have HL1 : Hid (w.heap.size + 1 < Y.heap.size) := by unfold Hid; omega
  clear hkY hBY hYs hk
  have HNO := Lib.hid hno
  clear hno
  go_enter Tryd.func11, Tryd.ntmps11
  go_wp2_with (first
    | (go_at_call 23; refine hix.mono ?_; rintro e w2 ⟨⟨i, he, hfi⟩, hb2⟩; unfold Tells at he; subst he; obtain rfl := first_none hfi HNO.out; have B2 := Lib.hid hb2; have A2 := Lib.hid (AK.out.below hb2 HL1.out); clear hfi hb2)
    | (refine wpList_store_arr rfl 26 (.tmp 4) (.tmp 15) rfl (w.heap.size + 1) rfl (vs := [.int .i64 0, .slice none 0 0]) rfl A2.out sizeK rfl rfl (by simp [Value.oneCell']) ?_; intro W3 A3 B3 hsz3 O3))
  refine bodyPost_ret (results_cell2 rfl rfl A3.out Tryd.underlying26 rfl sizeK) rfl ?_
  exact ⟨rfl, (HB.out.trans (B2.out.mono HLE.out)).trans (B3.out.mono (by omega))⟩
set_option maxHeartbeats 1600000 in
set_option maxRecDepth 100000 in
theorem find_some (id : Int) (h0 : ¬ id = 0) (kA : Option Addr) (kc : Nat) (ks : List KeyD) (hkl : ks.length ≤ 9223372036854775807) (j : Nat) (kd : KeyD) (hj : ks[j]? = some kd) (hm : kd.id = id ∧ okK kd.id kd.n) (hfst : ∀ (j' : Nat) (kd' : KeyD), j' < j → ks[j']? = some kd' → ¬ (kd'.id = id ∧ okK kd'.id kd'.n)) (w : World) (hk : RdK w.heap.size w kA ks) :
    Calls Tryd.prog 11 #[.slice kA ks.length kc, .int .i64 id] w fun e w' => e = .returned (.tuple #[.agg #[.int .i64 kd.id, .slice kd.a kd.n kd.c], .bool true]) ∧ Below w.heap.size w w' := by
  obtain ⟨Y, hY⟩ : ∃ Y, (w.alloc (.cells #[.int .i64 id] 3)).alloc (.cells #[.int .i64 0, .slice none 0 0] 26) = Y := ⟨_, rfl⟩
  have AK : Hid (Arr Y (w.heap.size + 1) 26 [.int .i64 0, .slice none 0 0]) := by rw [← hY]; exact Arr.new2 w (.cells #[.int .i64 id] 3) 26 [.int .i64 0, .slice none 0 0]
  have ci : Y.cell? ⟨w.heap.size, 0, none⟩ = some (.int .i64 id) := by rw [← hY]; exact ((Arr.new w 3 [.int .i64 id]).alloc _).cell 0
  have hYs : Y.heap.size = w.heap.size + 2 := by rw [← hY]; simp
  have hBY : Below w.heap.size w Y := by rw [← hY]; exact ((Below.refl w.heap.size w).alloc (Nat.le_refl _) _).alloc (by simp) _
  have hkY : ∀ (j : Nat) (kd : KeyD), ks[j]? = some kd → kd.n ≤ 9223372036854775807 ∧ ∃ B off, kA = some ⟨B, off, none⟩ ∧ B < Y.heap.size ∧ Y.cell? ⟨B, off + j * 2, none⟩ = some (.int .i64 kd.id) ∧ Y.cell? ⟨B, off + j * 2 + 1, none⟩ = some (.slice kd.a kd.n kd.c) := fun j kd hj => by
    obtain ⟨h1, B, off, e, h2, h3, h4⟩ := hk j kd hj
    exact ⟨h1, B, off, e, by omega, (hBY.cell (p := ⟨B, _, none⟩) h2).trans h3, (hBY.cell (p := ⟨B, _, none⟩) h2).trans h4⟩
  have hix := index_any id w.heap.size kA kc ks hkl Y ci (by omega) hkY
  have HB := Lib.hid hBY
  have HKY := Lib.hid hkY
  have HLE : Hid (w.heap.size ≤ Y.heap.size) := by unfold Hid; omega
  have HL1 : Hid (w.heap.size + 1 < Y.heap.size) := by unfold Hid; omega
  clear hkY hBY hYs hk
  have hjl : j < ks.length := (List.getElem?_eq_some_iff.1 hj).1
  obtain ⟨_, Bk, off, rfl, hBk, hc0, hc1⟩ := HKY.out j kd hj
  have HC0 := Lib.hid hc0
  have HC1 := Lib.hid hc1
  have HBK := Lib.hid hBk
  have HFS := Lib.hid (fun i (h : FirstK id ks i) => first_some h hj hm hfst)
  clear hj hm hfst hc0 hc1 hBk HKY
  go_enter Tryd.func11, Tryd.ntmps11
  go_wp2_with (first
    | (go_at_call 23; refine hix.mono ?_; rintro e w2 ⟨⟨i, he, hfi⟩, hb2⟩; unfold Tells at he; subst he; obtain rfl := HFS.out _ hfi; have B2 := Lib.hid hb2; have A2 := Lib.hid (AK.out.below hb2 HL1.out); have d0 := (hb2.cell (p := ⟨Bk, off + j * 2, none⟩) HBK.out).trans HC0.out; have d1 := (hb2.cell (p := ⟨Bk, off + j * 2 + 1, none⟩) HBK.out).trans HC1.out; clear hfi hb2)
    | (refine wpList_store_arr rfl 26 (.tmp 4) (.tmp 19) rfl (w.heap.size + 1) rfl (vs := [.int .i64 kd.id, .slice kd.a kd.n kd.c]) rfl A2.out sizeK rfl rfl (by simp [Value.oneCell']) ?_; intro W3 A3 B3 hsz3 O3))
  refine bodyPost_ret (results_cell2 rfl rfl A3.out Tryd.underlying26 rfl sizeK) rfl ?_
  exact ⟨rfl, (HB.out.trans (B2.out.mono HLE.out)).trans (B3.out.mono (by omega))⟩
end Go.Proofs.YtmmocnokgcgmnaaDoor
