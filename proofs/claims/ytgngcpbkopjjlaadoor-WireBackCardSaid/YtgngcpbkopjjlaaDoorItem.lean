/-
  THE DOCUMENT's item, in part: where there is no item (no number, or one too great); what a box of four cells is behind four stores.
-/
import Derived.Test.YtgngcpbkopjjlaaDoorEnc
import Derived.Test.YtgngcpbkopjjlaaDoorRefTake
namespace Go.Proofs.YtgngcpbkopjjlaaDoor
open Go.RowKit

theorem Box.frozen {W : World} {B : Nat} {cs : Array Value} (h : Box W B cs) (i : Nat) : W.frozen? ⟨B, i, none⟩ = false := by
  unfold Box at h
  simp [World.frozen?, h]
theorem Box.alloc {W : World} {B : Nat} {cs : Array Value} (h : Box W B cs) (o : Obj) : Box (W.alloc o) B cs := (Below.heap_alloc W o B h.lt).trans h
theorem Rd.drop {k : IntKind} {n₀ : Nat} {W : World} {b off : Nat} {zs : List Int} (h : Rd k n₀ W (some ⟨b, off, none⟩) zs) (j : Nat) : Rd k n₀ W (some ⟨b, off + j, none⟩) (zs.drop j) := fun hp => by
  rw [List.length_drop] at hp
  obtain ⟨b', off', e, hb, hc⟩ := h (by omega)
  injection e with e
  injection e with e1 e2
  subst e1 e2
  refine ⟨b, off + j, rfl, hb, fun i hi => ?_⟩
  rw [List.length_drop] at hi
  rw [List.getElem?_drop, Nat.add_assoc]
  exact hc (j + i) (by omega)
theorem Box.set_ {W : World} {B : Nat} {cs : Array Value} (h : Box W B cs) (i : Nat) (u : Value) : Box (W.setCell ⟨B, i, none⟩ u) B (cs.setIfInBounds i u) := by
  unfold Box at h ⊢
  simp [World.setCell, Array.getElem?_modify, h]
theorem Box.four {W : World} {B : Nat} {a b c d : Value} (h : Box W B #[a, b, c, d]) (v0 v1 v2 v3 : Value) :
    Box ((((W.setCell ⟨B, 0, none⟩ v0).setCell ⟨B, 1, none⟩ v1).setCell ⟨B, 2, none⟩ v2).setCell ⟨B, 3, none⟩ v3) B #[v0, v1, v2, v3] ∧
    Below B W ((((W.setCell ⟨B, 0, none⟩ v0).setCell ⟨B, 1, none⟩ v1).setCell ⟨B, 2, none⟩ v2).setCell ⟨B, 3, none⟩ v3) := by
  refine ⟨by simpa using (((h.set_ 0 v0).set_ 1 v1).set_ 2 v2).set_ 3 v3, ?_⟩
  exact ((((Below.refl B W).setCell (p := ⟨B, 0, none⟩) (Nat.le_refl _) _).setCell (p := ⟨B, 1, none⟩) (Nat.le_refl _) _).setCell (p := ⟨B, 2, none⟩) (Nat.le_refl _) _).setCell (p := ⟨B, 3, none⟩) (Nat.le_refl _) _

/-- The item that some bytes begin with, and the rest. -/
def itemS (zs : List Int) : Option (It × List Int) := match scan 0 0 zs with
  | [] => none
  | q :: _ => if 4003 < q.n then none
    else if q.n % 4 = 2 ∨ q.n % 4 = 3 then some (⟨(q.n % 4 : Nat) + 1, (q.n / 4 : Nat), 0, []⟩, zs.drop q.k)
    else match scan 0 0 (zs.drop q.k) with
      | [] => none
      | p :: _ => if q.n % 4 = 0 then some (⟨1, (q.n / 4 : Nat), zagI p.n, []⟩, (zs.drop q.k).drop p.k)
        else if ((zs.drop q.k).drop p.k).length < p.n then none
        else some (⟨2, (q.n / 4 : Nat), 0, ((zs.drop q.k).drop p.k).take p.n⟩, ((zs.drop q.k).drop p.k).drop p.n)

def NoItem (w : World) (e : Ending) (w' : World) : Prop :=
  e = .returned (.tuple #[.agg #[.int .i64 0, .int .i64 0, .int .i64 0, .slice none 0 0], .slice none 0 0, .bool false]) ∧ Below w.heap.size w w'
def AnItem (x : It) (rest : List Int) (w : World) (e : Ending) (w' : World) : Prop :=
  ∃ A c R cr, e = .returned (.tuple #[.agg #[.int .i64 x.kind, .int .i64 x.id, .int .i64 x.n, .slice A x.bs.length c], .slice R rest.length cr, .bool true]) ∧
    x.bs.length ≤ c ∧ c ≤ maxLen ∧ Rd .u8 w'.heap.size w' A x.bs ∧ rest.length ≤ cr ∧ cr ≤ 9223372036854775807 ∧ Rd .u8 w.heap.size w R rest ∧ Below w.heap.size w w'

theorem rtake_len {a : Option Addr} {len : Nat} (cap : Nat) (zs : List Int) (hl : zs.length = len) (hlen : len ≤ 100000) (hcap : len ≤ cap) (hb : ∀ x ∈ zs, 0 ≤ x ∧ x ≤ 255) {w : World} (hr : Rd .u8 w.heap.size w a zs) {r1 r2 r3 : Int} (hres : takeS zs = (r1, r2, r3)) :
    Calls Tryd.prog 88 #[.slice a len cap] w fun e w' => e = .returned (.tuple #[.int .u64 r1, .int .i64 r2, .int .i64 r3]) ∧ Below w.heap.size w w' := by
  subst hl
  have h := rtake_any a cap zs hlen hcap hb w hr
  rw [hres] at h
  exact h

set_option maxHeartbeats 4000000 in
set_option maxRecDepth 100000 in
theorem item_none1 (a : Option Addr) (cap : Nat) (zs : List Int) (hlen : zs.length ≤ 100000) (hcap : zs.length ≤ cap) (hb : ∀ x ∈ zs, 0 ≤ x ∧ x ≤ 255) (w : World) (hr : Rd .u8 w.heap.size w a zs) (hs : scan 0 0 zs = []) :
    Calls Tryd.prog 48 #[.slice a zs.length cap] w (NoItem w) := by
  have hres : takeS zs = (0, 0, 2) := by unfold takeS; rw [hs]
  have htk := rtake_len cap zs rfl hlen hcap hb (w := w.alloc (.cells #[.int .i64 0, .int .i64 0, .int .i64 0, .slice none 0 0] 64)) ((hr.below ((Below.refl _ w).alloc (Nat.le_refl _) _)).mono (by simp)) hres
  clear hres hs
  go_enter Tryd.func48, Tryd.ntmps48
  go_wp2_with (go_at_call 88; refine htk.mono ?_; rintro e w1 ⟨rfl, hb1⟩; have BX := Lib.hid (Box.below (heap_alloc_new w (.cells #[.int .i64 0, .int .i64 0, .int .i64 0, .slice none 0 0] 64)) hb1 (by simp)); have H1 := Lib.hid (((Below.refl w.heap.size w).alloc (Nat.le_refl _) (.cells #[.int .i64 0, .int .i64 0, .int .i64 0, .slice none 0 0] 64)).trans (hb1.mono (by simp))); clear hb1; have c0 := BX.out.cell 0; have c1 := BX.out.cell 1; have c2 := BX.out.cell 2; have c3 := BX.out.cell 3; have fz : ∀ i, w1.frozen? ⟨w.heap.size, i, none⟩ = false := fun i => by have h := BX.out; unfold Box at h; simp [World.frozen?, h])
  obtain ⟨B4, L4⟩ := BX.out.four (.int .i64 0) (.int .i64 0) (.int .i64 0) (.slice none 0 0)
  have e0 := B4.cell 0
  have e1 := B4.cell 1
  have e2 := B4.cell 2
  have e3 := B4.cell 3
  simp only [List.getElem?_toArray, List.getElem?_cons_zero, List.getElem?_cons_succ] at e0 e1 e2 e3
  refine bodyPost_ret (v := .tuple #[.agg #[.int .i64 0, .int .i64 0, .int .i64 0, .slice none 0 0], .slice none 0 0, .bool false]) (by simp [results, go_sem, e0, e1, e2, e3]) rfl ⟨rfl, H1.out.trans L4⟩
set_option maxHeartbeats 4000000 in
set_option maxRecDepth 100000 in
theorem item_none0 (a : Option Addr) (cap : Nat) (zs : List Int) (hlen : zs.length ≤ 100000) (hcap : zs.length ≤ cap) (hb : ∀ x ∈ zs, 0 ≤ x ∧ x ≤ 255) (w : World) (hr : Rd .u8 w.heap.size w a zs) (q : Num) (qs : List Num) (hs : scan 0 0 zs = q :: qs) (hbig : 4003 < q.n) :
    Calls Tryd.prog 48 #[.slice a zs.length cap] w (NoItem w) := by
  have hres : takeS zs = ((q.n : Int), (q.k : Int), 0) := by unfold takeS; rw [hs]
  have htk := rtake_len cap zs rfl hlen hcap hb (w := w.alloc (.cells #[.int .i64 0, .int .i64 0, .int .i64 0, .slice none 0 0] 64)) ((hr.below ((Below.refl _ w).alloc (Nat.le_refl _) _)).mono (by simp)) hres
  have hqn := q.hn
  clear hres hs
  go_enter Tryd.func48, Tryd.ntmps48
  go_wp2_with (go_at_call 88; refine htk.mono ?_; rintro e w1 ⟨rfl, hb1⟩; have BX := Lib.hid (Box.below (heap_alloc_new w (.cells #[.int .i64 0, .int .i64 0, .int .i64 0, .slice none 0 0] 64)) hb1 (by simp)); have H1 := Lib.hid (((Below.refl w.heap.size w).alloc (Nat.le_refl _) (.cells #[.int .i64 0, .int .i64 0, .int .i64 0, .slice none 0 0] 64)).trans (hb1.mono (by simp))); clear hb1; have c0 := BX.out.cell 0; have c1 := BX.out.cell 1; have c2 := BX.out.cell 2; have c3 := BX.out.cell 3; have fz : ∀ i, w1.frozen? ⟨w.heap.size, i, none⟩ = false := fun i => by have h := BX.out; unfold Box at h; simp [World.frozen?, h])
  obtain ⟨B4, L4⟩ := BX.out.four (.int .i64 0) (.int .i64 0) (.int .i64 0) (.slice none 0 0)
  have e0 := B4.cell 0
  have e1 := B4.cell 1
  have e2 := B4.cell 2
  have e3 := B4.cell 3
  simp only [List.getElem?_toArray, List.getElem?_cons_zero, List.getElem?_cons_succ] at e0 e1 e2 e3
  refine bodyPost_ret (v := .tuple #[.agg #[.int .i64 0, .int .i64 0, .int .i64 0, .slice none 0 0], .slice none 0 0, .bool false]) (by simp [results, go_sem, e0, e1, e2, e3]) rfl ⟨rfl, H1.out.trans L4⟩
set_option maxHeartbeats 4000000 in
set_option maxRecDepth 100000 in
theorem item_group (a : Option Addr) (cap : Nat) (zs : List Int) (hlen : zs.length ≤ 100000) (hcap : zs.length ≤ cap) (hcm : cap ≤ 9223372036854775807) (hb : ∀ x ∈ zs, 0 ≤ x ∧ x ≤ 255) (w : World) (hr : Rd .u8 w.heap.size w a zs) (q : Num) (qs : List Num) (hs : scan 0 0 zs = q :: qs) (hbig : q.n ≤ 4003) (m : Nat) (hm : q.n % 4 = m) (hm2 : m = 2 ∨ m = 3) :
    Calls Tryd.prog 48 #[.slice a zs.length cap] w (AnItem ⟨(m : Int) + 1, (q.n / 4 : Nat), 0, []⟩ (zs.drop q.k) w) := by
  have hres : takeS zs = ((q.n : Int), (q.k : Int), 0) := by unfold takeS; rw [hs]
  have htk := rtake_len cap zs rfl hlen hcap hb (w := w.alloc (.cells #[.int .i64 0, .int .i64 0, .int .i64 0, .slice none 0 0] 64)) ((hr.below ((Below.refl _ w).alloc (Nat.le_refl _) _)).mono (by simp)) hres
  obtain ⟨hq0, hql, _, _⟩ := scan_first0 hb hs
  obtain ⟨b, off, rfl, hbb, _⟩ := hr (by omega)
  have hqn := q.hn
  have hmod : (q.n : Int) % 4 = (m : Int) := by omega
  have HRr := Lib.hid hr
  clear hres hs hm hr
  rcases hm2 with rfl | rfl
  · go_enter Tryd.func48, Tryd.ntmps48
    go_wp2_with (go_at_call 88; refine htk.mono ?_; rintro e w1 ⟨rfl, hb1⟩; have BX := Lib.hid (Box.below (heap_alloc_new w (.cells #[.int .i64 0, .int .i64 0, .int .i64 0, .slice none 0 0] 64)) hb1 (by simp)); have H1 := Lib.hid (((Below.refl w.heap.size w).alloc (Nat.le_refl _) (.cells #[.int .i64 0, .int .i64 0, .int .i64 0, .slice none 0 0] 64)).trans (hb1.mono (by simp))); clear hb1; have hlt := BX.out.lt; have c0 : w1.cell? ⟨w.heap.size, 0, none⟩ = some (.int .i64 0) := BX.out.cell 0; have c1 : w1.cell? ⟨w.heap.size, 1, none⟩ = some (.int .i64 0) := BX.out.cell 1; have c2 : w1.cell? ⟨w.heap.size, 2, none⟩ = some (.int .i64 0) := BX.out.cell 2; have c3 : w1.cell? ⟨w.heap.size, 3, none⟩ = some (.slice none 0 0) := BX.out.cell 3; have f0 := BX.out.frozen 0; have f1 := BX.out.frozen 1; have f2 := BX.out.frozen 2; have f3 := BX.out.frozen 3)
    · obtain rfl : cap = q.k := by assumption
      have hdl : (zs.drop q.k).length = 0 := by rw [List.length_drop]; omega
      obtain ⟨B0, L4⟩ := BX.out.four (.int .i64 3) (.int .i64 ((q.n : Int) / 4)) (.int .i64 0) (.slice none 0 0)
      have B4 := B0.alloc (.cells #[.int .i64 3, .int .i64 ((q.n : Int) / 4), .int .i64 0, .slice none 0 0] 64)
      have e0 := B4.cell 0
      have e1 := B4.cell 1
      have e2 := B4.cell 2
      have e3 := B4.cell 3
      simp only [List.getElem?_toArray, List.getElem?_cons_zero, List.getElem?_cons_succ] at e0 e1 e2 e3
      refine bodyPost_ret (v := .tuple #[.agg #[.int .i64 3, .int .i64 ((q.n : Int) / 4), .int .i64 0, .slice none 0 0], .slice (some ⟨b, off, none⟩) (zs.length - q.k) 0, .bool true]) (by simp [results, go_sem, e0, e1, e2, e3]) rfl ?_
      refine ⟨none, 0, some ⟨b, off, none⟩, 0, ?_, Nat.le_refl _, Nat.zero_le _, fun hp => by simp at hp, by omega, by omega, fun hp => by omega, (H1.out.trans L4).alloc (H1.out.trans L4).size _⟩
      rw [List.length_drop]
      rfl
    · have hne : ¬ cap = q.k := by assumption
      obtain ⟨B0, L4⟩ := BX.out.four (.int .i64 3) (.int .i64 ((q.n : Int) / 4)) (.int .i64 0) (.slice none 0 0)
      have B4 := B0.alloc (.cells #[.int .i64 3, .int .i64 ((q.n : Int) / 4), .int .i64 0, .slice none 0 0] 64)
      have e0 := B4.cell 0
      have e1 := B4.cell 1
      have e2 := B4.cell 2
      have e3 := B4.cell 3
      simp only [List.getElem?_toArray, List.getElem?_cons_zero, List.getElem?_cons_succ] at e0 e1 e2 e3
      refine bodyPost_ret (v := .tuple #[.agg #[.int .i64 3, .int .i64 ((q.n : Int) / 4), .int .i64 0, .slice none 0 0], .slice (some ⟨b, off + q.k, none⟩) (zs.length - q.k) (cap - q.k), .bool true]) (by simp [results, go_sem, e0, e1, e2, e3]) rfl ?_
      refine ⟨none, 0, some ⟨b, off + q.k, none⟩, cap - q.k, ?_, Nat.le_refl _, Nat.zero_le _, fun hp => by simp at hp, by rw [List.length_drop]; omega, by omega, HRr.out.drop q.k, (H1.out.trans L4).alloc (H1.out.trans L4).size _⟩
      rw [List.length_drop]
      rfl
  · go_enter Tryd.func48, Tryd.ntmps48
    go_wp2_with (go_at_call 88; refine htk.mono ?_; rintro e w1 ⟨rfl, hb1⟩; have BX := Lib.hid (Box.below (heap_alloc_new w (.cells #[.int .i64 0, .int .i64 0, .int .i64 0, .slice none 0 0] 64)) hb1 (by simp)); have H1 := Lib.hid (((Below.refl w.heap.size w).alloc (Nat.le_refl _) (.cells #[.int .i64 0, .int .i64 0, .int .i64 0, .slice none 0 0] 64)).trans (hb1.mono (by simp))); clear hb1; have hlt := BX.out.lt; have c0 : w1.cell? ⟨w.heap.size, 0, none⟩ = some (.int .i64 0) := BX.out.cell 0; have c1 : w1.cell? ⟨w.heap.size, 1, none⟩ = some (.int .i64 0) := BX.out.cell 1; have c2 : w1.cell? ⟨w.heap.size, 2, none⟩ = some (.int .i64 0) := BX.out.cell 2; have c3 : w1.cell? ⟨w.heap.size, 3, none⟩ = some (.slice none 0 0) := BX.out.cell 3; have f0 := BX.out.frozen 0; have f1 := BX.out.frozen 1; have f2 := BX.out.frozen 2; have f3 := BX.out.frozen 3)
    · obtain rfl : cap = q.k := by assumption
      have hdl : (zs.drop q.k).length = 0 := by rw [List.length_drop]; omega
      obtain ⟨B0, L4⟩ := BX.out.four (.int .i64 4) (.int .i64 ((q.n : Int) / 4)) (.int .i64 0) (.slice none 0 0)
      have B4 := B0.alloc (.cells #[.int .i64 4, .int .i64 ((q.n : Int) / 4), .int .i64 0, .slice none 0 0] 64)
      have e0 := B4.cell 0
      have e1 := B4.cell 1
      have e2 := B4.cell 2
      have e3 := B4.cell 3
      simp only [List.getElem?_toArray, List.getElem?_cons_zero, List.getElem?_cons_succ] at e0 e1 e2 e3
      refine bodyPost_ret (v := .tuple #[.agg #[.int .i64 4, .int .i64 ((q.n : Int) / 4), .int .i64 0, .slice none 0 0], .slice (some ⟨b, off, none⟩) (zs.length - q.k) 0, .bool true]) (by simp [results, go_sem, e0, e1, e2, e3]) rfl ?_
      refine ⟨none, 0, some ⟨b, off, none⟩, 0, ?_, Nat.le_refl _, Nat.zero_le _, fun hp => by simp at hp, by omega, by omega, fun hp => by omega, (H1.out.trans L4).alloc (H1.out.trans L4).size _⟩
      rw [List.length_drop]
      rfl
    · have hne : ¬ cap = q.k := by assumption
      obtain ⟨B0, L4⟩ := BX.out.four (.int .i64 4) (.int .i64 ((q.n : Int) / 4)) (.int .i64 0) (.slice none 0 0)
      have B4 := B0.alloc (.cells #[.int .i64 4, .int .i64 ((q.n : Int) / 4), .int .i64 0, .slice none 0 0] 64)
      have e0 := B4.cell 0
      have e1 := B4.cell 1
      have e2 := B4.cell 2
      have e3 := B4.cell 3
      simp only [List.getElem?_toArray, List.getElem?_cons_zero, List.getElem?_cons_succ] at e0 e1 e2 e3
      refine bodyPost_ret (v := .tuple #[.agg #[.int .i64 4, .int .i64 ((q.n : Int) / 4), .int .i64 0, .slice none 0 0], .slice (some ⟨b, off + q.k, none⟩) (zs.length - q.k) (cap - q.k), .bool true]) (by simp [results, go_sem, e0, e1, e2, e3]) rfl ?_
      refine ⟨none, 0, some ⟨b, off + q.k, none⟩, cap - q.k, ?_, Nat.le_refl _, Nat.zero_le _, fun hp => by simp at hp, by rw [List.length_drop]; omega, by omega, HRr.out.drop q.k, (H1.out.trans L4).alloc (H1.out.trans L4).size _⟩
      rw [List.length_drop]
      rfl
end Go.Proofs.YtgngcpbkopjjlaaDoor
