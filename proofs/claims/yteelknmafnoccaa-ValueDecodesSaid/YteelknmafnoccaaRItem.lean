/-
  THE DOCUMENT's item: the item that some bytes begin with, its bytes in memory of their own, and the rest.
-/
import Derived.Test.YteelknmafnoccaaPDec2
import Derived.RegionTactic
import Derived.ChangeAlike
import Derived.BigRegion
namespace Go.Proofs.Yteelknmafnoccaa
open Go.RowKit
set_option linter.unusedVariables false

/-- An item, its bytes in memory of their own, and the rest. -/
def AnItemD (x : It) (rest : List Int) (n₀ : Nat) (w : World) (e : Ending) (w' : World) : Prop :=
  ∃ A c R cr, e = .returned (.tuple #[.agg #[.int .i64 x.kind, .int .i64 x.id, .int .i64 x.n, .slice A x.bs.length c], .slice R rest.length cr, .bool true]) ∧
    w'.ownsRow w.heap.size 5 1 (.slice A x.bs.length c) x.bs.length (x.bs.map (Value.int .u8)) ∧ rest.length ≤ cr ∧ cr ≤ 9223372036854775807 ∧ Rd .u8 n₀ w R rest ∧ Below w.heap.size w w'

set_option maxHeartbeats 4000000 in
set_option maxRecDepth 100000 in
theorem ritem_group (a : Option Addr) (cap : Nat) (zs : List Int) (hlen : zs.length ≤ 100000) (hcap : zs.length ≤ cap) (hcm : cap ≤ 9223372036854775807) (hb : ∀ x ∈ zs, 0 ≤ x ∧ x ≤ 255) (w : World) (n₀ : Nat) (hn₀ : n₀ ≤ w.heap.size) (hr0 : Rd .u8 n₀ w a zs) (q : Num) (qs : List Num) (hs : scan 0 0 zs = q :: qs) (hbig : q.n ≤ 4003) (m : Nat) (hm : q.n % 4 = m) (hm2 : m = 2 ∨ m = 3) :
    Calls Try.prog 30 #[.slice a zs.length cap] w (AnItemD ⟨(m : Int) + 1, (q.n / 4 : Nat), 0, []⟩ (zs.drop q.k) n₀ w) := by
  have hr := hr0.mono hn₀
  have HR0 := Lib.hid hr0
  clear hr0
  have hres : takeS zs = ((q.n : Int), (q.k : Int), 0) := by unfold takeS; rw [hs]
  have htk := rtake_len cap zs rfl hlen hcap hb (w := w.alloc (.cells #[.int .i64 0, .int .i64 0, .int .i64 0, .slice none 0 0] 41)) ((hr.below ((Below.refl _ w).alloc (Nat.le_refl _) _)).mono (by simp)) hres
  obtain ⟨hq0, hql, _, _⟩ := scan_first0 hb hs
  obtain ⟨b, off, rfl, hbb, _⟩ := hr (by omega)
  have hqn := q.hn
  have hmod : (q.n : Int) % 4 = (m : Int) := by omega
  have HRr := Lib.hid hr
  clear hres hs hm hr
  rcases hm2 with rfl | rfl
  · go_enter Try.func30, Try.ntmps30
    go_wp2_with (go_at_call 39; refine htk.mono ?_; rintro e w1 ⟨rfl, hb1⟩; have BX := Lib.hid (Box.below (heap_alloc_new w (.cells #[.int .i64 0, .int .i64 0, .int .i64 0, .slice none 0 0] 41)) hb1 (by simp)); have H1 := Lib.hid (((Below.refl w.heap.size w).alloc (Nat.le_refl _) (.cells #[.int .i64 0, .int .i64 0, .int .i64 0, .slice none 0 0] 41)).trans (hb1.mono (by simp))); clear hb1; have hlt := BX.out.lt; have c0 : w1.cell? ⟨w.heap.size, 0, none⟩ = some (.int .i64 0) := BX.out.cell 0; have c1 : w1.cell? ⟨w.heap.size, 1, none⟩ = some (.int .i64 0) := BX.out.cell 1; have c2 : w1.cell? ⟨w.heap.size, 2, none⟩ = some (.int .i64 0) := BX.out.cell 2; have c3 : w1.cell? ⟨w.heap.size, 3, none⟩ = some (.slice none 0 0) := BX.out.cell 3; have f0 := BX.out.frozen 0; have f1 := BX.out.frozen 1; have f2 := BX.out.frozen 2; have f3 := BX.out.frozen 3)
    · obtain rfl : cap = q.k := by assumption
      have hdl : (zs.drop q.k).length = 0 := by rw [List.length_drop]; omega
      obtain ⟨B0, L4⟩ := BX.out.four (.int .i64 3) (.int .i64 ((q.n : Int) / 4)) (.int .i64 0) (.slice none 0 0)
      have B4 := B0.alloc (.cells #[.int .i64 3, .int .i64 ((q.n : Int) / 4), .int .i64 0, .slice none 0 0] 41)
      have e0 := B4.cell 0
      have e1 := B4.cell 1
      have e2 := B4.cell 2
      have e3 := B4.cell 3
      simp only [List.getElem?_toArray, List.getElem?_cons_zero, List.getElem?_cons_succ] at e0 e1 e2 e3
      refine bodyPost_ret (v := .tuple #[.agg #[.int .i64 3, .int .i64 ((q.n : Int) / 4), .int .i64 0, .slice none 0 0], .slice (some ⟨b, off, none⟩) (zs.length - q.k) 0, .bool true]) (by simp [results, go_sem, e0, e1, e2, e3]) rfl ?_
      refine ⟨none, 0, some ⟨b, off, none⟩, 0, ?_, World.ownsRow_nil _ _ _ _, by omega, by omega, fun hp => by omega, (H1.out.trans L4).alloc (H1.out.trans L4).size _⟩
      rw [List.length_drop]
      rfl
    · have hne : ¬ cap = q.k := by assumption
      obtain ⟨B0, L4⟩ := BX.out.four (.int .i64 3) (.int .i64 ((q.n : Int) / 4)) (.int .i64 0) (.slice none 0 0)
      have B4 := B0.alloc (.cells #[.int .i64 3, .int .i64 ((q.n : Int) / 4), .int .i64 0, .slice none 0 0] 41)
      have e0 := B4.cell 0
      have e1 := B4.cell 1
      have e2 := B4.cell 2
      have e3 := B4.cell 3
      simp only [List.getElem?_toArray, List.getElem?_cons_zero, List.getElem?_cons_succ] at e0 e1 e2 e3
      refine bodyPost_ret (v := .tuple #[.agg #[.int .i64 3, .int .i64 ((q.n : Int) / 4), .int .i64 0, .slice none 0 0], .slice (some ⟨b, off + q.k, none⟩) (zs.length - q.k) (cap - q.k), .bool true]) (by simp [results, go_sem, e0, e1, e2, e3]) rfl ?_
      refine ⟨none, 0, some ⟨b, off + q.k, none⟩, cap - q.k, ?_, World.ownsRow_nil _ _ _ _, by rw [List.length_drop]; omega, by omega, HR0.out.drop q.k, (H1.out.trans L4).alloc (H1.out.trans L4).size _⟩
      rw [List.length_drop]
      rfl
  · go_enter Try.func30, Try.ntmps30
    go_wp2_with (go_at_call 39; refine htk.mono ?_; rintro e w1 ⟨rfl, hb1⟩; have BX := Lib.hid (Box.below (heap_alloc_new w (.cells #[.int .i64 0, .int .i64 0, .int .i64 0, .slice none 0 0] 41)) hb1 (by simp)); have H1 := Lib.hid (((Below.refl w.heap.size w).alloc (Nat.le_refl _) (.cells #[.int .i64 0, .int .i64 0, .int .i64 0, .slice none 0 0] 41)).trans (hb1.mono (by simp))); clear hb1; have hlt := BX.out.lt; have c0 : w1.cell? ⟨w.heap.size, 0, none⟩ = some (.int .i64 0) := BX.out.cell 0; have c1 : w1.cell? ⟨w.heap.size, 1, none⟩ = some (.int .i64 0) := BX.out.cell 1; have c2 : w1.cell? ⟨w.heap.size, 2, none⟩ = some (.int .i64 0) := BX.out.cell 2; have c3 : w1.cell? ⟨w.heap.size, 3, none⟩ = some (.slice none 0 0) := BX.out.cell 3; have f0 := BX.out.frozen 0; have f1 := BX.out.frozen 1; have f2 := BX.out.frozen 2; have f3 := BX.out.frozen 3)
    · obtain rfl : cap = q.k := by assumption
      have hdl : (zs.drop q.k).length = 0 := by rw [List.length_drop]; omega
      obtain ⟨B0, L4⟩ := BX.out.four (.int .i64 4) (.int .i64 ((q.n : Int) / 4)) (.int .i64 0) (.slice none 0 0)
      have B4 := B0.alloc (.cells #[.int .i64 4, .int .i64 ((q.n : Int) / 4), .int .i64 0, .slice none 0 0] 41)
      have e0 := B4.cell 0
      have e1 := B4.cell 1
      have e2 := B4.cell 2
      have e3 := B4.cell 3
      simp only [List.getElem?_toArray, List.getElem?_cons_zero, List.getElem?_cons_succ] at e0 e1 e2 e3
      refine bodyPost_ret (v := .tuple #[.agg #[.int .i64 4, .int .i64 ((q.n : Int) / 4), .int .i64 0, .slice none 0 0], .slice (some ⟨b, off, none⟩) (zs.length - q.k) 0, .bool true]) (by simp [results, go_sem, e0, e1, e2, e3]) rfl ?_
      refine ⟨none, 0, some ⟨b, off, none⟩, 0, ?_, World.ownsRow_nil _ _ _ _, by omega, by omega, fun hp => by omega, (H1.out.trans L4).alloc (H1.out.trans L4).size _⟩
      rw [List.length_drop]
      rfl
    · have hne : ¬ cap = q.k := by assumption
      obtain ⟨B0, L4⟩ := BX.out.four (.int .i64 4) (.int .i64 ((q.n : Int) / 4)) (.int .i64 0) (.slice none 0 0)
      have B4 := B0.alloc (.cells #[.int .i64 4, .int .i64 ((q.n : Int) / 4), .int .i64 0, .slice none 0 0] 41)
      have e0 := B4.cell 0
      have e1 := B4.cell 1
      have e2 := B4.cell 2
      have e3 := B4.cell 3
      simp only [List.getElem?_toArray, List.getElem?_cons_zero, List.getElem?_cons_succ] at e0 e1 e2 e3
      refine bodyPost_ret (v := .tuple #[.agg #[.int .i64 4, .int .i64 ((q.n : Int) / 4), .int .i64 0, .slice none 0 0], .slice (some ⟨b, off + q.k, none⟩) (zs.length - q.k) (cap - q.k), .bool true]) (by simp [results, go_sem, e0, e1, e2, e3]) rfl ?_
      refine ⟨none, 0, some ⟨b, off + q.k, none⟩, cap - q.k, ?_, World.ownsRow_nil _ _ _ _, by rw [List.length_drop]; omega, by omega, HR0.out.drop q.k, (H1.out.trans L4).alloc (H1.out.trans L4).size _⟩
      rw [List.length_drop]
      rfl
set_option maxHeartbeats 8000000 in
set_option maxRecDepth 100000 in
theorem ritem_int_eq (a : Option Addr) (cap : Nat) (zs : List Int) (hlen : zs.length ≤ 100000) (hcap : zs.length ≤ cap) (hcm : cap ≤ 9223372036854775807) (hb : ∀ x ∈ zs, 0 ≤ x ∧ x ≤ 255) (w : World) (n₀ : Nat) (hn₀ : n₀ ≤ w.heap.size) (hr0 : Rd .u8 n₀ w a zs) (q : Num) (qs : List Num) (hs : scan 0 0 zs = q :: qs) (hbig : q.n ≤ 4003) (hm : q.n % 4 = 0) (p : Num) (ps : List Num) (hs2 : scan 0 0 (zs.drop q.k) = p :: ps) (hc : cap = q.k + p.k) :
    Calls Try.prog 30 #[.slice a zs.length cap] w (AnItemD ⟨1, (q.n / 4 : Nat), zagI p.n, []⟩ ((zs.drop q.k).drop p.k) n₀ w) := by
  have hr := hr0.mono hn₀
  have HR0 := Lib.hid hr0
  clear hr0
  have hres : takeS zs = ((q.n : Int), (q.k : Int), 0) := by unfold takeS; rw [hs]
  have hres2 : takeS (zs.drop q.k) = ((p.n : Int), (p.k : Int), 0) := by unfold takeS; rw [hs2]
  have htk := rtake_len cap zs rfl hlen hcap hb (w := w.alloc (.cells #[.int .i64 0, .int .i64 0, .int .i64 0, .slice none 0 0] 41)) ((hr.below ((Below.refl _ w).alloc (Nat.le_refl _) _)).mono (by simp)) hres
  obtain ⟨hq0, hql, _, _⟩ := scan_first0 hb hs
  have hb2 : ∀ x ∈ zs.drop q.k, 0 ≤ x ∧ x ≤ 255 := fun x hx => hb x (List.mem_of_mem_drop hx)
  obtain ⟨hp0, hpl, _, _⟩ := scan_first0 hb2 hs2
  rw [List.length_drop] at hpl
  have hpn := p.hn
  obtain rfl : cap = q.k + p.k := hc
  have hne : ¬ q.k + p.k = q.k := by omega
  obtain ⟨b, off, rfl, hbb, _⟩ := hr (by omega)
  have hqn := q.hn
  have hmod : (q.n : Int) % 4 = 0 := by omega
  have HRr := Lib.hid hr
  have hzag := rzag_any p.n hpn
  have htk2 : ∀ W, Below w.heap.size w W → Calls Try.prog 39 #[.slice (some ⟨b, off + q.k, none⟩) (zs.length - q.k) p.k] W fun e w' => e = .returned (.tuple #[.int .u64 p.n, .int .i64 p.k, .int .i64 0]) ∧ Below W.heap.size W w' := fun W hW =>
    rtake_len p.k (zs.drop q.k) (List.length_drop ..) (by omega) (by omega) hb2 (((HRr.out.drop q.k).below hW).mono hW.size) hres2
  have HT2 := Lib.hid htk2
  have T1 : True := trivial
  have T2 : True := trivial
  clear hres hres2 hs hs2 hm hr htk2
  go_enter Try.func30, Try.ntmps30
  go_wp2_with (first
    | (go_at_call 39; have _t1 := T1; (with_reducible refine htk.mono ?_); rintro e w1 ⟨rfl, hb1⟩; have BX := Lib.hid (Box.below (heap_alloc_new w (.cells #[.int .i64 0, .int .i64 0, .int .i64 0, .slice none 0 0] 41)) hb1 (by simp)); have H1 := Lib.hid (((Below.refl w.heap.size w).alloc (Nat.le_refl _) (.cells #[.int .i64 0, .int .i64 0, .int .i64 0, .slice none 0 0] 41)).trans (hb1.mono (by simp))); have hlt := BX.out.lt; clear hb1 T1)
    | (go_at_call 39; have _t2 := T2; (with_reducible refine (HT2.out _ (H1.out.alloc H1.out.size _)).mono ?_); rintro e w3 ⟨rfl, hb3⟩; have B2 := Lib.hid (Box.below (heap_alloc_new w1 (.cells #[.int .i64 1, .int .i64 ((q.n : Int) / 4), .int .i64 0, .slice none 0 0] 41)) hb3 (by simp)); have B0 := Lib.hid (Box.below (BX.out.alloc (.cells #[.int .i64 1, .int .i64 ((q.n : Int) / 4), .int .i64 0, .slice none 0 0] 41)) hb3 (by simp; omega)); have H3 := Lib.hid ((H1.out.alloc H1.out.size (.cells #[.int .i64 1, .int .i64 ((q.n : Int) / 4), .int .i64 0, .slice none 0 0] 41)).trans (hb3.mono (by have := H1.out.size; simp; omega))); have S3 := Lib.hid (Nat.lt_of_lt_of_le (show w1.heap.size < (w1.alloc (.cells #[.int .i64 1, .int .i64 ((q.n : Int) / 4), .int .i64 0, .slice none 0 0] 41)).heap.size by simp) hb3.size); have x0 : w3.cell? ⟨w1.heap.size, 0, none⟩ = some (.int .i64 1) := B2.out.cell 0; have x1 : w3.cell? ⟨w1.heap.size, 1, none⟩ = some (.int .i64 ((q.n : Int) / 4)) := B2.out.cell 1; have x2 : w3.cell? ⟨w1.heap.size, 2, none⟩ = some (.int .i64 0) := B2.out.cell 2; have x3 : w3.cell? ⟨w1.heap.size, 3, none⟩ = some (.slice none 0 0) := B2.out.cell 3; have y0 : w3.cell? ⟨w.heap.size, 0, none⟩ = some (.int .i64 0) := B0.out.cell 0; have y1 : w3.cell? ⟨w.heap.size, 1, none⟩ = some (.int .i64 0) := B0.out.cell 1; have y2 : w3.cell? ⟨w.heap.size, 2, none⟩ = some (.int .i64 0) := B0.out.cell 2; have y3 : w3.cell? ⟨w.heap.size, 3, none⟩ = some (.slice none 0 0) := B0.out.cell 3; have f2 := B2.out.frozen 2; have z0 := B0.out.frozen 0; have z1 := B0.out.frozen 1; have z2 := B0.out.frozen 2; have z3 := B0.out.frozen 3; clear hb3 T2)
    | (go_at_call 40; refine (hzag _).mono ?_; rintro e w' ⟨rfl, rfl⟩))
  obtain ⟨B4, L4⟩ := (B0.out.far (B' := w1.heap.size) (by omega) 2 (.int .i64 (zagI p.n))).four (.int .i64 1) (.int .i64 ((q.n : Int) / 4)) (.int .i64 (zagI p.n)) (.slice none 0 0)
  have e0 := B4.cell 0
  have e1 := B4.cell 1
  have e2 := B4.cell 2
  have e3 := B4.cell 3
  simp only [List.getElem?_toArray, List.getElem?_cons_zero, List.getElem?_cons_succ] at e0 e1 e2 e3
  refine bodyPost_ret (v := .tuple #[.agg #[.int .i64 1, .int .i64 ((q.n : Int) / 4), .int .i64 (zagI p.n), .slice none 0 0], .slice (some ⟨b, off + q.k, none⟩) (zs.length - q.k - p.k) 0, .bool true]) (by simp [results, go_sem, e0, e1, e2, e3]) rfl ?_
  exact ⟨none, 0, some ⟨b, off + q.k, none⟩, 0, by rw [List.length_drop, List.length_drop]; rfl, World.ownsRow_nil _ _ _ _, by rw [List.length_drop, List.length_drop]; omega, by omega, (fun hp => by rw [List.length_drop, List.length_drop] at hp; omega), (H3.out.setCell (by have := H1.out.size; simp; omega) _).trans L4⟩

set_option maxHeartbeats 8000000 in
set_option maxRecDepth 100000 in
theorem ritem_int_ne (a : Option Addr) (cap : Nat) (zs : List Int) (hlen : zs.length ≤ 100000) (hcap : zs.length ≤ cap) (hcm : cap ≤ 9223372036854775807) (hb : ∀ x ∈ zs, 0 ≤ x ∧ x ≤ 255) (w : World) (n₀ : Nat) (hn₀ : n₀ ≤ w.heap.size) (hr0 : Rd .u8 n₀ w a zs) (q : Num) (qs : List Num) (hs : scan 0 0 zs = q :: qs) (hbig : q.n ≤ 4003) (hm : q.n % 4 = 0) (p : Num) (ps : List Num) (hs2 : scan 0 0 (zs.drop q.k) = p :: ps) (hc : ¬ cap = q.k + p.k) :
    Calls Try.prog 30 #[.slice a zs.length cap] w (AnItemD ⟨1, (q.n / 4 : Nat), zagI p.n, []⟩ ((zs.drop q.k).drop p.k) n₀ w) := by
  have hr := hr0.mono hn₀
  have HR0 := Lib.hid hr0
  clear hr0
  have hres : takeS zs = ((q.n : Int), (q.k : Int), 0) := by unfold takeS; rw [hs]
  have hres2 : takeS (zs.drop q.k) = ((p.n : Int), (p.k : Int), 0) := by unfold takeS; rw [hs2]
  have htk := rtake_len cap zs rfl hlen hcap hb (w := w.alloc (.cells #[.int .i64 0, .int .i64 0, .int .i64 0, .slice none 0 0] 41)) ((hr.below ((Below.refl _ w).alloc (Nat.le_refl _) _)).mono (by simp)) hres
  obtain ⟨hq0, hql, _, _⟩ := scan_first0 hb hs
  have hb2 : ∀ x ∈ zs.drop q.k, 0 ≤ x ∧ x ≤ 255 := fun x hx => hb x (List.mem_of_mem_drop hx)
  obtain ⟨hp0, hpl, _, _⟩ := scan_first0 hb2 hs2
  rw [List.length_drop] at hpl
  have hpn := p.hn
  have hne : ¬ cap = q.k := by omega
  have hne2 : ¬ cap - q.k = p.k := by omega
  obtain ⟨b, off, rfl, hbb, _⟩ := hr (by omega)
  have hqn := q.hn
  have hmod : (q.n : Int) % 4 = 0 := by omega
  have HRr := Lib.hid hr
  have hzag := rzag_any p.n hpn
  have htk2 : ∀ W, Below w.heap.size w W → Calls Try.prog 39 #[.slice (some ⟨b, off + q.k, none⟩) (zs.length - q.k) (cap - q.k)] W fun e w' => e = .returned (.tuple #[.int .u64 p.n, .int .i64 p.k, .int .i64 0]) ∧ Below W.heap.size W w' := fun W hW =>
    rtake_len (cap - q.k) (zs.drop q.k) (List.length_drop ..) (by omega) (by omega) hb2 (((HRr.out.drop q.k).below hW).mono hW.size) hres2
  have HT2 := Lib.hid htk2
  have T1 : True := trivial
  have T2 : True := trivial
  clear hres hres2 hs hs2 hm hr htk2
  go_enter Try.func30, Try.ntmps30
  go_wp2_with (first
    | (go_at_call 39; have _t1 := T1; (with_reducible refine htk.mono ?_); rintro e w1 ⟨rfl, hb1⟩; have BX := Lib.hid (Box.below (heap_alloc_new w (.cells #[.int .i64 0, .int .i64 0, .int .i64 0, .slice none 0 0] 41)) hb1 (by simp)); have H1 := Lib.hid (((Below.refl w.heap.size w).alloc (Nat.le_refl _) (.cells #[.int .i64 0, .int .i64 0, .int .i64 0, .slice none 0 0] 41)).trans (hb1.mono (by simp))); have hlt := BX.out.lt; clear hb1 T1)
    | (go_at_call 39; have _t2 := T2; (with_reducible refine (HT2.out _ (H1.out.alloc H1.out.size _)).mono ?_); rintro e w3 ⟨rfl, hb3⟩; have B2 := Lib.hid (Box.below (heap_alloc_new w1 (.cells #[.int .i64 1, .int .i64 ((q.n : Int) / 4), .int .i64 0, .slice none 0 0] 41)) hb3 (by simp)); have B0 := Lib.hid (Box.below (BX.out.alloc (.cells #[.int .i64 1, .int .i64 ((q.n : Int) / 4), .int .i64 0, .slice none 0 0] 41)) hb3 (by simp; omega)); have H3 := Lib.hid ((H1.out.alloc H1.out.size (.cells #[.int .i64 1, .int .i64 ((q.n : Int) / 4), .int .i64 0, .slice none 0 0] 41)).trans (hb3.mono (by have := H1.out.size; simp; omega))); have S3 := Lib.hid (Nat.lt_of_lt_of_le (show w1.heap.size < (w1.alloc (.cells #[.int .i64 1, .int .i64 ((q.n : Int) / 4), .int .i64 0, .slice none 0 0] 41)).heap.size by simp) hb3.size); have x0 : w3.cell? ⟨w1.heap.size, 0, none⟩ = some (.int .i64 1) := B2.out.cell 0; have x1 : w3.cell? ⟨w1.heap.size, 1, none⟩ = some (.int .i64 ((q.n : Int) / 4)) := B2.out.cell 1; have x2 : w3.cell? ⟨w1.heap.size, 2, none⟩ = some (.int .i64 0) := B2.out.cell 2; have x3 : w3.cell? ⟨w1.heap.size, 3, none⟩ = some (.slice none 0 0) := B2.out.cell 3; have y0 : w3.cell? ⟨w.heap.size, 0, none⟩ = some (.int .i64 0) := B0.out.cell 0; have y1 : w3.cell? ⟨w.heap.size, 1, none⟩ = some (.int .i64 0) := B0.out.cell 1; have y2 : w3.cell? ⟨w.heap.size, 2, none⟩ = some (.int .i64 0) := B0.out.cell 2; have y3 : w3.cell? ⟨w.heap.size, 3, none⟩ = some (.slice none 0 0) := B0.out.cell 3; have f2 := B2.out.frozen 2; have z0 := B0.out.frozen 0; have z1 := B0.out.frozen 1; have z2 := B0.out.frozen 2; have z3 := B0.out.frozen 3; clear hb3 T2)
    | (go_at_call 40; refine (hzag _).mono ?_; rintro e w' ⟨rfl, rfl⟩))
  obtain ⟨B4, L4⟩ := (B0.out.far (B' := w1.heap.size) (by omega) 2 (.int .i64 (zagI p.n))).four (.int .i64 1) (.int .i64 ((q.n : Int) / 4)) (.int .i64 (zagI p.n)) (.slice none 0 0)
  have e0 := B4.cell 0
  have e1 := B4.cell 1
  have e2 := B4.cell 2
  have e3 := B4.cell 3
  simp only [List.getElem?_toArray, List.getElem?_cons_zero, List.getElem?_cons_succ] at e0 e1 e2 e3
  refine bodyPost_ret (v := .tuple #[.agg #[.int .i64 1, .int .i64 ((q.n : Int) / 4), .int .i64 (zagI p.n), .slice none 0 0], .slice (some ⟨b, off + q.k + p.k, none⟩) (zs.length - q.k - p.k) (cap - q.k - p.k), .bool true]) (by simp [results, go_sem, e0, e1, e2, e3]) rfl ?_
  exact ⟨none, 0, some ⟨b, off + q.k + p.k, none⟩, cap - q.k - p.k, by rw [List.length_drop, List.length_drop]; rfl, World.ownsRow_nil _ _ _ _, by rw [List.length_drop, List.length_drop]; omega, by omega, (HR0.out.drop q.k).drop p.k, (H3.out.setCell (by have := H1.out.size; simp; omega) _).trans L4⟩

set_option maxHeartbeats 8000000 in
set_option maxRecDepth 100000 in
theorem ritem_none2_0eq (a : Option Addr) (cap : Nat) (zs : List Int) (hlen : zs.length ≤ 100000) (hcap : zs.length ≤ cap) (hcm : cap ≤ 9223372036854775807) (hb : ∀ x ∈ zs, 0 ≤ x ∧ x ≤ 255) (w : World) (n₀ : Nat) (hn₀ : n₀ ≤ w.heap.size) (hr0 : Rd .u8 n₀ w a zs) (q : Num) (qs : List Num) (hs : scan 0 0 zs = q :: qs) (hbig : q.n ≤ 4003) (hm : q.n % 4 = 0) (hs2 : scan 0 0 (zs.drop q.k) = []) (hc : cap = q.k) :
    Calls Try.prog 30 #[.slice a zs.length cap] w (NoItem w) := by
  have hr := hr0.mono hn₀
  have HR0 := Lib.hid hr0
  clear hr0
  have hres : takeS zs = ((q.n : Int), (q.k : Int), 0) := by unfold takeS; rw [hs]
  have hres2 : takeS (zs.drop q.k) = (0, 0, 2) := by unfold takeS; rw [hs2]
  have htk := rtake_len cap zs rfl hlen hcap hb (w := w.alloc (.cells #[.int .i64 0, .int .i64 0, .int .i64 0, .slice none 0 0] 41)) ((hr.below ((Below.refl _ w).alloc (Nat.le_refl _) _)).mono (by simp)) hres
  obtain ⟨hq0, hql, _, _⟩ := scan_first0 hb hs
  have hb2 : ∀ x ∈ zs.drop q.k, 0 ≤ x ∧ x ≤ 255 := fun x hx => hb x (List.mem_of_mem_drop hx)
  obtain rfl : cap = q.k := hc
  obtain ⟨b, off, rfl, hbb, _⟩ := hr (by omega)
  have hqn := q.hn
  have hmod : (q.n : Int) % 4 = 0 := by omega
  have HRr := Lib.hid hr
  have htk2 : ∀ W, Below w.heap.size w W → Calls Try.prog 39 #[.slice (some ⟨b, off, none⟩) 0 0] W fun e w' => e = .returned (.tuple #[.int .u64 0, .int .i64 0, .int .i64 2]) ∧ Below W.heap.size W w' := fun W hW =>
    rtake_len 0 (zs.drop q.k) (by rw [List.length_drop]; omega) (by omega) (Nat.le_refl _) hb2 (fun hp => by rw [List.length_drop] at hp; omega) hres2
  have HT2 := Lib.hid htk2
  have T1 : True := trivial
  have T2 : True := trivial
  clear hres hres2 hs hs2 hm hr htk2
  go_enter Try.func30, Try.ntmps30
  go_wp2_with (first
    | (go_at_call 39; have _t1 := T1; (with_reducible refine htk.mono ?_); rintro e w1 ⟨rfl, hb1⟩; have BX := Lib.hid (Box.below (heap_alloc_new w (.cells #[.int .i64 0, .int .i64 0, .int .i64 0, .slice none 0 0] 41)) hb1 (by simp)); have H1 := Lib.hid (((Below.refl w.heap.size w).alloc (Nat.le_refl _) (.cells #[.int .i64 0, .int .i64 0, .int .i64 0, .slice none 0 0] 41)).trans (hb1.mono (by simp))); have hlt := BX.out.lt; clear hb1 T1)
    | (go_at_call 39; have _t2 := T2; (with_reducible refine (HT2.out _ (H1.out.alloc H1.out.size _)).mono ?_); rintro e w3 ⟨rfl, hb3⟩; have B2 := Lib.hid (Box.below (heap_alloc_new w1 (.cells #[.int .i64 1, .int .i64 ((q.n : Int) / 4), .int .i64 0, .slice none 0 0] 41)) hb3 (by simp)); have B0 := Lib.hid (Box.below (BX.out.alloc (.cells #[.int .i64 1, .int .i64 ((q.n : Int) / 4), .int .i64 0, .slice none 0 0] 41)) hb3 (by simp; omega)); have H3 := Lib.hid ((H1.out.alloc H1.out.size (.cells #[.int .i64 1, .int .i64 ((q.n : Int) / 4), .int .i64 0, .slice none 0 0] 41)).trans (hb3.mono (by have := H1.out.size; simp; omega))); have S3 := Lib.hid (Nat.lt_of_lt_of_le (show w1.heap.size < (w1.alloc (.cells #[.int .i64 1, .int .i64 ((q.n : Int) / 4), .int .i64 0, .slice none 0 0] 41)).heap.size by simp) hb3.size); have x0 : w3.cell? ⟨w1.heap.size, 0, none⟩ = some (.int .i64 1) := B2.out.cell 0; have x1 : w3.cell? ⟨w1.heap.size, 1, none⟩ = some (.int .i64 ((q.n : Int) / 4)) := B2.out.cell 1; have x2 : w3.cell? ⟨w1.heap.size, 2, none⟩ = some (.int .i64 0) := B2.out.cell 2; have x3 : w3.cell? ⟨w1.heap.size, 3, none⟩ = some (.slice none 0 0) := B2.out.cell 3; have y0 : w3.cell? ⟨w.heap.size, 0, none⟩ = some (.int .i64 0) := B0.out.cell 0; have y1 : w3.cell? ⟨w.heap.size, 1, none⟩ = some (.int .i64 0) := B0.out.cell 1; have y2 : w3.cell? ⟨w.heap.size, 2, none⟩ = some (.int .i64 0) := B0.out.cell 2; have y3 : w3.cell? ⟨w.heap.size, 3, none⟩ = some (.slice none 0 0) := B0.out.cell 3; have f2 := B2.out.frozen 2; have z0 := B0.out.frozen 0; have z1 := B0.out.frozen 1; have z2 := B0.out.frozen 2; have z3 := B0.out.frozen 3; clear hb3 T2))
  obtain ⟨B4, L4⟩ := B0.out.four (.int .i64 0) (.int .i64 0) (.int .i64 0) (.slice none 0 0)
  have e0 := B4.cell 0
  have e1 := B4.cell 1
  have e2 := B4.cell 2
  have e3 := B4.cell 3
  simp only [List.getElem?_toArray, List.getElem?_cons_zero, List.getElem?_cons_succ] at e0 e1 e2 e3
  refine bodyPost_ret (v := .tuple #[.agg #[.int .i64 0, .int .i64 0, .int .i64 0, .slice none 0 0], .slice none 0 0, .bool false]) (by simp [results, go_sem, e0, e1, e2, e3]) rfl ?_
  exact ⟨rfl, H3.out.trans L4⟩

set_option maxHeartbeats 8000000 in
set_option maxRecDepth 100000 in
theorem ritem_none2_0ne (a : Option Addr) (cap : Nat) (zs : List Int) (hlen : zs.length ≤ 100000) (hcap : zs.length ≤ cap) (hcm : cap ≤ 9223372036854775807) (hb : ∀ x ∈ zs, 0 ≤ x ∧ x ≤ 255) (w : World) (n₀ : Nat) (hn₀ : n₀ ≤ w.heap.size) (hr0 : Rd .u8 n₀ w a zs) (q : Num) (qs : List Num) (hs : scan 0 0 zs = q :: qs) (hbig : q.n ≤ 4003) (hm : q.n % 4 = 0) (hs2 : scan 0 0 (zs.drop q.k) = []) (hc : ¬ cap = q.k) :
    Calls Try.prog 30 #[.slice a zs.length cap] w (NoItem w) := by
  have hr := hr0.mono hn₀
  have HR0 := Lib.hid hr0
  clear hr0
  have hres : takeS zs = ((q.n : Int), (q.k : Int), 0) := by unfold takeS; rw [hs]
  have hres2 : takeS (zs.drop q.k) = (0, 0, 2) := by unfold takeS; rw [hs2]
  have htk := rtake_len cap zs rfl hlen hcap hb (w := w.alloc (.cells #[.int .i64 0, .int .i64 0, .int .i64 0, .slice none 0 0] 41)) ((hr.below ((Below.refl _ w).alloc (Nat.le_refl _) _)).mono (by simp)) hres
  obtain ⟨hq0, hql, _, _⟩ := scan_first0 hb hs
  have hb2 : ∀ x ∈ zs.drop q.k, 0 ≤ x ∧ x ≤ 255 := fun x hx => hb x (List.mem_of_mem_drop hx)
  have hne : ¬ cap = q.k := hc
  obtain ⟨b, off, rfl, hbb, _⟩ := hr (by omega)
  have hqn := q.hn
  have hmod : (q.n : Int) % 4 = 0 := by omega
  have HRr := Lib.hid hr
  have htk2 : ∀ W, Below w.heap.size w W → Calls Try.prog 39 #[.slice (some ⟨b, off + q.k, none⟩) (zs.length - q.k) (cap - q.k)] W fun e w' => e = .returned (.tuple #[.int .u64 0, .int .i64 0, .int .i64 2]) ∧ Below W.heap.size W w' := fun W hW =>
    rtake_len (cap - q.k) (zs.drop q.k) (List.length_drop ..) (by omega) (by omega) hb2 (((HRr.out.drop q.k).below hW).mono hW.size) hres2
  have HT2 := Lib.hid htk2
  have T1 : True := trivial
  have T2 : True := trivial
  clear hres hres2 hs hs2 hm hr htk2
  go_enter Try.func30, Try.ntmps30
  go_wp2_with (first
    | (go_at_call 39; have _t1 := T1; (with_reducible refine htk.mono ?_); rintro e w1 ⟨rfl, hb1⟩; have BX := Lib.hid (Box.below (heap_alloc_new w (.cells #[.int .i64 0, .int .i64 0, .int .i64 0, .slice none 0 0] 41)) hb1 (by simp)); have H1 := Lib.hid (((Below.refl w.heap.size w).alloc (Nat.le_refl _) (.cells #[.int .i64 0, .int .i64 0, .int .i64 0, .slice none 0 0] 41)).trans (hb1.mono (by simp))); have hlt := BX.out.lt; clear hb1 T1)
    | (go_at_call 39; have _t2 := T2; (with_reducible refine (HT2.out _ (H1.out.alloc H1.out.size _)).mono ?_); rintro e w3 ⟨rfl, hb3⟩; have B2 := Lib.hid (Box.below (heap_alloc_new w1 (.cells #[.int .i64 1, .int .i64 ((q.n : Int) / 4), .int .i64 0, .slice none 0 0] 41)) hb3 (by simp)); have B0 := Lib.hid (Box.below (BX.out.alloc (.cells #[.int .i64 1, .int .i64 ((q.n : Int) / 4), .int .i64 0, .slice none 0 0] 41)) hb3 (by simp; omega)); have H3 := Lib.hid ((H1.out.alloc H1.out.size (.cells #[.int .i64 1, .int .i64 ((q.n : Int) / 4), .int .i64 0, .slice none 0 0] 41)).trans (hb3.mono (by have := H1.out.size; simp; omega))); have S3 := Lib.hid (Nat.lt_of_lt_of_le (show w1.heap.size < (w1.alloc (.cells #[.int .i64 1, .int .i64 ((q.n : Int) / 4), .int .i64 0, .slice none 0 0] 41)).heap.size by simp) hb3.size); have x0 : w3.cell? ⟨w1.heap.size, 0, none⟩ = some (.int .i64 1) := B2.out.cell 0; have x1 : w3.cell? ⟨w1.heap.size, 1, none⟩ = some (.int .i64 ((q.n : Int) / 4)) := B2.out.cell 1; have x2 : w3.cell? ⟨w1.heap.size, 2, none⟩ = some (.int .i64 0) := B2.out.cell 2; have x3 : w3.cell? ⟨w1.heap.size, 3, none⟩ = some (.slice none 0 0) := B2.out.cell 3; have y0 : w3.cell? ⟨w.heap.size, 0, none⟩ = some (.int .i64 0) := B0.out.cell 0; have y1 : w3.cell? ⟨w.heap.size, 1, none⟩ = some (.int .i64 0) := B0.out.cell 1; have y2 : w3.cell? ⟨w.heap.size, 2, none⟩ = some (.int .i64 0) := B0.out.cell 2; have y3 : w3.cell? ⟨w.heap.size, 3, none⟩ = some (.slice none 0 0) := B0.out.cell 3; have f2 := B2.out.frozen 2; have z0 := B0.out.frozen 0; have z1 := B0.out.frozen 1; have z2 := B0.out.frozen 2; have z3 := B0.out.frozen 3; clear hb3 T2))
  obtain ⟨B4, L4⟩ := B0.out.four (.int .i64 0) (.int .i64 0) (.int .i64 0) (.slice none 0 0)
  have e0 := B4.cell 0
  have e1 := B4.cell 1
  have e2 := B4.cell 2
  have e3 := B4.cell 3
  simp only [List.getElem?_toArray, List.getElem?_cons_zero, List.getElem?_cons_succ] at e0 e1 e2 e3
  refine bodyPost_ret (v := .tuple #[.agg #[.int .i64 0, .int .i64 0, .int .i64 0, .slice none 0 0], .slice none 0 0, .bool false]) (by simp [results, go_sem, e0, e1, e2, e3]) rfl ?_
  exact ⟨rfl, H3.out.trans L4⟩

set_option maxHeartbeats 8000000 in
set_option maxRecDepth 100000 in
theorem ritem_none2_1eq (a : Option Addr) (cap : Nat) (zs : List Int) (hlen : zs.length ≤ 100000) (hcap : zs.length ≤ cap) (hcm : cap ≤ 9223372036854775807) (hb : ∀ x ∈ zs, 0 ≤ x ∧ x ≤ 255) (w : World) (n₀ : Nat) (hn₀ : n₀ ≤ w.heap.size) (hr0 : Rd .u8 n₀ w a zs) (q : Num) (qs : List Num) (hs : scan 0 0 zs = q :: qs) (hbig : q.n ≤ 4003) (hm : q.n % 4 = 1) (hs2 : scan 0 0 (zs.drop q.k) = []) (hc : cap = q.k) :
    Calls Try.prog 30 #[.slice a zs.length cap] w (NoItem w) := by
  have hr := hr0.mono hn₀
  have HR0 := Lib.hid hr0
  clear hr0
  have hres : takeS zs = ((q.n : Int), (q.k : Int), 0) := by unfold takeS; rw [hs]
  have hres2 : takeS (zs.drop q.k) = (0, 0, 2) := by unfold takeS; rw [hs2]
  have htk := rtake_len cap zs rfl hlen hcap hb (w := w.alloc (.cells #[.int .i64 0, .int .i64 0, .int .i64 0, .slice none 0 0] 41)) ((hr.below ((Below.refl _ w).alloc (Nat.le_refl _) _)).mono (by simp)) hres
  obtain ⟨hq0, hql, _, _⟩ := scan_first0 hb hs
  have hb2 : ∀ x ∈ zs.drop q.k, 0 ≤ x ∧ x ≤ 255 := fun x hx => hb x (List.mem_of_mem_drop hx)
  obtain rfl : cap = q.k := hc
  obtain ⟨b, off, rfl, hbb, _⟩ := hr (by omega)
  have hqn := q.hn
  have hmod : (q.n : Int) % 4 = 1 := by omega
  have HRr := Lib.hid hr
  have htk2 : ∀ W, Below w.heap.size w W → Calls Try.prog 39 #[.slice (some ⟨b, off, none⟩) 0 0] W fun e w' => e = .returned (.tuple #[.int .u64 0, .int .i64 0, .int .i64 2]) ∧ Below W.heap.size W w' := fun W hW =>
    rtake_len 0 (zs.drop q.k) (by rw [List.length_drop]; omega) (by omega) (Nat.le_refl _) hb2 (fun hp => by rw [List.length_drop] at hp; omega) hres2
  have HT2 := Lib.hid htk2
  have T1 : True := trivial
  have T2 : True := trivial
  clear hres hres2 hs hs2 hm hr htk2
  go_enter Try.func30, Try.ntmps30
  go_wp2_with (first
    | (go_at_call 39; have _t1 := T1; (with_reducible refine htk.mono ?_); rintro e w1 ⟨rfl, hb1⟩; have BX := Lib.hid (Box.below (heap_alloc_new w (.cells #[.int .i64 0, .int .i64 0, .int .i64 0, .slice none 0 0] 41)) hb1 (by simp)); have H1 := Lib.hid (((Below.refl w.heap.size w).alloc (Nat.le_refl _) (.cells #[.int .i64 0, .int .i64 0, .int .i64 0, .slice none 0 0] 41)).trans (hb1.mono (by simp))); have hlt := BX.out.lt; clear hb1 T1)
    | (go_at_call 39; have _t2 := T2; (with_reducible refine (HT2.out _ (H1.out.alloc H1.out.size _)).mono ?_); rintro e w3 ⟨rfl, hb3⟩; have B2 := Lib.hid (Box.below (heap_alloc_new w1 (.cells #[.int .i64 2, .int .i64 ((q.n : Int) / 4), .int .i64 0, .slice none 0 0] 41)) hb3 (by simp)); have B0 := Lib.hid (Box.below (BX.out.alloc (.cells #[.int .i64 2, .int .i64 ((q.n : Int) / 4), .int .i64 0, .slice none 0 0] 41)) hb3 (by simp; omega)); have H3 := Lib.hid ((H1.out.alloc H1.out.size (.cells #[.int .i64 2, .int .i64 ((q.n : Int) / 4), .int .i64 0, .slice none 0 0] 41)).trans (hb3.mono (by have := H1.out.size; simp; omega))); have S3 := Lib.hid (Nat.lt_of_lt_of_le (show w1.heap.size < (w1.alloc (.cells #[.int .i64 2, .int .i64 ((q.n : Int) / 4), .int .i64 0, .slice none 0 0] 41)).heap.size by simp) hb3.size); have x0 : w3.cell? ⟨w1.heap.size, 0, none⟩ = some (.int .i64 2) := B2.out.cell 0; have x1 : w3.cell? ⟨w1.heap.size, 1, none⟩ = some (.int .i64 ((q.n : Int) / 4)) := B2.out.cell 1; have x2 : w3.cell? ⟨w1.heap.size, 2, none⟩ = some (.int .i64 0) := B2.out.cell 2; have x3 : w3.cell? ⟨w1.heap.size, 3, none⟩ = some (.slice none 0 0) := B2.out.cell 3; have y0 : w3.cell? ⟨w.heap.size, 0, none⟩ = some (.int .i64 0) := B0.out.cell 0; have y1 : w3.cell? ⟨w.heap.size, 1, none⟩ = some (.int .i64 0) := B0.out.cell 1; have y2 : w3.cell? ⟨w.heap.size, 2, none⟩ = some (.int .i64 0) := B0.out.cell 2; have y3 : w3.cell? ⟨w.heap.size, 3, none⟩ = some (.slice none 0 0) := B0.out.cell 3; have f2 := B2.out.frozen 2; have z0 := B0.out.frozen 0; have z1 := B0.out.frozen 1; have z2 := B0.out.frozen 2; have z3 := B0.out.frozen 3; clear hb3 T2))
  obtain ⟨B4, L4⟩ := B0.out.four (.int .i64 0) (.int .i64 0) (.int .i64 0) (.slice none 0 0)
  have e0 := B4.cell 0
  have e1 := B4.cell 1
  have e2 := B4.cell 2
  have e3 := B4.cell 3
  simp only [List.getElem?_toArray, List.getElem?_cons_zero, List.getElem?_cons_succ] at e0 e1 e2 e3
  refine bodyPost_ret (v := .tuple #[.agg #[.int .i64 0, .int .i64 0, .int .i64 0, .slice none 0 0], .slice none 0 0, .bool false]) (by simp [results, go_sem, e0, e1, e2, e3]) rfl ?_
  exact ⟨rfl, H3.out.trans L4⟩

set_option maxHeartbeats 8000000 in
set_option maxRecDepth 100000 in
theorem ritem_none2_1ne (a : Option Addr) (cap : Nat) (zs : List Int) (hlen : zs.length ≤ 100000) (hcap : zs.length ≤ cap) (hcm : cap ≤ 9223372036854775807) (hb : ∀ x ∈ zs, 0 ≤ x ∧ x ≤ 255) (w : World) (n₀ : Nat) (hn₀ : n₀ ≤ w.heap.size) (hr0 : Rd .u8 n₀ w a zs) (q : Num) (qs : List Num) (hs : scan 0 0 zs = q :: qs) (hbig : q.n ≤ 4003) (hm : q.n % 4 = 1) (hs2 : scan 0 0 (zs.drop q.k) = []) (hc : ¬ cap = q.k) :
    Calls Try.prog 30 #[.slice a zs.length cap] w (NoItem w) := by
  have hr := hr0.mono hn₀
  have HR0 := Lib.hid hr0
  clear hr0
  have hres : takeS zs = ((q.n : Int), (q.k : Int), 0) := by unfold takeS; rw [hs]
  have hres2 : takeS (zs.drop q.k) = (0, 0, 2) := by unfold takeS; rw [hs2]
  have htk := rtake_len cap zs rfl hlen hcap hb (w := w.alloc (.cells #[.int .i64 0, .int .i64 0, .int .i64 0, .slice none 0 0] 41)) ((hr.below ((Below.refl _ w).alloc (Nat.le_refl _) _)).mono (by simp)) hres
  obtain ⟨hq0, hql, _, _⟩ := scan_first0 hb hs
  have hb2 : ∀ x ∈ zs.drop q.k, 0 ≤ x ∧ x ≤ 255 := fun x hx => hb x (List.mem_of_mem_drop hx)
  have hne : ¬ cap = q.k := hc
  obtain ⟨b, off, rfl, hbb, _⟩ := hr (by omega)
  have hqn := q.hn
  have hmod : (q.n : Int) % 4 = 1 := by omega
  have HRr := Lib.hid hr
  have htk2 : ∀ W, Below w.heap.size w W → Calls Try.prog 39 #[.slice (some ⟨b, off + q.k, none⟩) (zs.length - q.k) (cap - q.k)] W fun e w' => e = .returned (.tuple #[.int .u64 0, .int .i64 0, .int .i64 2]) ∧ Below W.heap.size W w' := fun W hW =>
    rtake_len (cap - q.k) (zs.drop q.k) (List.length_drop ..) (by omega) (by omega) hb2 (((HRr.out.drop q.k).below hW).mono hW.size) hres2
  have HT2 := Lib.hid htk2
  have T1 : True := trivial
  have T2 : True := trivial
  clear hres hres2 hs hs2 hm hr htk2
  go_enter Try.func30, Try.ntmps30
  go_wp2_with (first
    | (go_at_call 39; have _t1 := T1; (with_reducible refine htk.mono ?_); rintro e w1 ⟨rfl, hb1⟩; have BX := Lib.hid (Box.below (heap_alloc_new w (.cells #[.int .i64 0, .int .i64 0, .int .i64 0, .slice none 0 0] 41)) hb1 (by simp)); have H1 := Lib.hid (((Below.refl w.heap.size w).alloc (Nat.le_refl _) (.cells #[.int .i64 0, .int .i64 0, .int .i64 0, .slice none 0 0] 41)).trans (hb1.mono (by simp))); have hlt := BX.out.lt; clear hb1 T1)
    | (go_at_call 39; have _t2 := T2; (with_reducible refine (HT2.out _ (H1.out.alloc H1.out.size _)).mono ?_); rintro e w3 ⟨rfl, hb3⟩; have B2 := Lib.hid (Box.below (heap_alloc_new w1 (.cells #[.int .i64 2, .int .i64 ((q.n : Int) / 4), .int .i64 0, .slice none 0 0] 41)) hb3 (by simp)); have B0 := Lib.hid (Box.below (BX.out.alloc (.cells #[.int .i64 2, .int .i64 ((q.n : Int) / 4), .int .i64 0, .slice none 0 0] 41)) hb3 (by simp; omega)); have H3 := Lib.hid ((H1.out.alloc H1.out.size (.cells #[.int .i64 2, .int .i64 ((q.n : Int) / 4), .int .i64 0, .slice none 0 0] 41)).trans (hb3.mono (by have := H1.out.size; simp; omega))); have S3 := Lib.hid (Nat.lt_of_lt_of_le (show w1.heap.size < (w1.alloc (.cells #[.int .i64 2, .int .i64 ((q.n : Int) / 4), .int .i64 0, .slice none 0 0] 41)).heap.size by simp) hb3.size); have x0 : w3.cell? ⟨w1.heap.size, 0, none⟩ = some (.int .i64 2) := B2.out.cell 0; have x1 : w3.cell? ⟨w1.heap.size, 1, none⟩ = some (.int .i64 ((q.n : Int) / 4)) := B2.out.cell 1; have x2 : w3.cell? ⟨w1.heap.size, 2, none⟩ = some (.int .i64 0) := B2.out.cell 2; have x3 : w3.cell? ⟨w1.heap.size, 3, none⟩ = some (.slice none 0 0) := B2.out.cell 3; have y0 : w3.cell? ⟨w.heap.size, 0, none⟩ = some (.int .i64 0) := B0.out.cell 0; have y1 : w3.cell? ⟨w.heap.size, 1, none⟩ = some (.int .i64 0) := B0.out.cell 1; have y2 : w3.cell? ⟨w.heap.size, 2, none⟩ = some (.int .i64 0) := B0.out.cell 2; have y3 : w3.cell? ⟨w.heap.size, 3, none⟩ = some (.slice none 0 0) := B0.out.cell 3; have f2 := B2.out.frozen 2; have z0 := B0.out.frozen 0; have z1 := B0.out.frozen 1; have z2 := B0.out.frozen 2; have z3 := B0.out.frozen 3; clear hb3 T2))
  obtain ⟨B4, L4⟩ := B0.out.four (.int .i64 0) (.int .i64 0) (.int .i64 0) (.slice none 0 0)
  have e0 := B4.cell 0
  have e1 := B4.cell 1
  have e2 := B4.cell 2
  have e3 := B4.cell 3
  simp only [List.getElem?_toArray, List.getElem?_cons_zero, List.getElem?_cons_succ] at e0 e1 e2 e3
  refine bodyPost_ret (v := .tuple #[.agg #[.int .i64 0, .int .i64 0, .int .i64 0, .slice none 0 0], .slice none 0 0, .bool false]) (by simp [results, go_sem, e0, e1, e2, e3]) rfl ?_
  exact ⟨rfl, H3.out.trans L4⟩

set_option maxHeartbeats 8000000 in
set_option maxRecDepth 100000 in
theorem ritem_long_eq (a : Option Addr) (cap : Nat) (zs : List Int) (hlen : zs.length ≤ 100000) (hcap : zs.length ≤ cap) (hcm : cap ≤ 9223372036854775807) (hb : ∀ x ∈ zs, 0 ≤ x ∧ x ≤ 255) (w : World) (n₀ : Nat) (hn₀ : n₀ ≤ w.heap.size) (hr0 : Rd .u8 n₀ w a zs) (q : Num) (qs : List Num) (hs : scan 0 0 zs = q :: qs) (hbig : q.n ≤ 4003) (hm : q.n % 4 = 1) (p : Num) (ps : List Num) (hs2 : scan 0 0 (zs.drop q.k) = p :: ps) (hlong : zs.length - q.k - p.k < p.n) (hc : cap = q.k + p.k) :
    Calls Try.prog 30 #[.slice a zs.length cap] w (NoItem w) := by
  have hr := hr0.mono hn₀
  have HR0 := Lib.hid hr0
  clear hr0
  have hres : takeS zs = ((q.n : Int), (q.k : Int), 0) := by unfold takeS; rw [hs]
  have hres2 : takeS (zs.drop q.k) = ((p.n : Int), (p.k : Int), 0) := by unfold takeS; rw [hs2]
  have htk := rtake_len cap zs rfl hlen hcap hb (w := w.alloc (.cells #[.int .i64 0, .int .i64 0, .int .i64 0, .slice none 0 0] 41)) ((hr.below ((Below.refl _ w).alloc (Nat.le_refl _) _)).mono (by simp)) hres
  obtain ⟨hq0, hql, _, _⟩ := scan_first0 hb hs
  have hb2 : ∀ x ∈ zs.drop q.k, 0 ≤ x ∧ x ≤ 255 := fun x hx => hb x (List.mem_of_mem_drop hx)
  obtain ⟨hp0, hpl, _, _⟩ := scan_first0 hb2 hs2
  rw [List.length_drop] at hpl
  have hpn := p.hn
  obtain rfl : cap = q.k + p.k := hc
  have hne : ¬ q.k + p.k = q.k := by omega
  obtain ⟨b, off, rfl, hbb, _⟩ := hr (by omega)
  have hqn := q.hn
  have hmod : (q.n : Int) % 4 = 1 := by omega
  have HRr := Lib.hid hr
  have htk2 : ∀ W, Below w.heap.size w W → Calls Try.prog 39 #[.slice (some ⟨b, off + q.k, none⟩) (zs.length - q.k) p.k] W fun e w' => e = .returned (.tuple #[.int .u64 p.n, .int .i64 p.k, .int .i64 0]) ∧ Below W.heap.size W w' := fun W hW =>
    rtake_len p.k (zs.drop q.k) (List.length_drop ..) (by omega) (by omega) hb2 (((HRr.out.drop q.k).below hW).mono hW.size) hres2
  have HT2 := Lib.hid htk2
  have T1 : True := trivial
  have T2 : True := trivial
  clear hres hres2 hs hs2 hm hr htk2
  go_enter Try.func30, Try.ntmps30
  go_wp2_with (first
    | (go_at_call 39; have _t1 := T1; (with_reducible refine htk.mono ?_); rintro e w1 ⟨rfl, hb1⟩; have BX := Lib.hid (Box.below (heap_alloc_new w (.cells #[.int .i64 0, .int .i64 0, .int .i64 0, .slice none 0 0] 41)) hb1 (by simp)); have H1 := Lib.hid (((Below.refl w.heap.size w).alloc (Nat.le_refl _) (.cells #[.int .i64 0, .int .i64 0, .int .i64 0, .slice none 0 0] 41)).trans (hb1.mono (by simp))); have hlt := BX.out.lt; clear hb1 T1)
    | (go_at_call 39; have _t2 := T2; (with_reducible refine (HT2.out _ (H1.out.alloc H1.out.size _)).mono ?_); rintro e w3 ⟨rfl, hb3⟩; have B2 := Lib.hid (Box.below (heap_alloc_new w1 (.cells #[.int .i64 2, .int .i64 ((q.n : Int) / 4), .int .i64 0, .slice none 0 0] 41)) hb3 (by simp)); have B0 := Lib.hid (Box.below (BX.out.alloc (.cells #[.int .i64 2, .int .i64 ((q.n : Int) / 4), .int .i64 0, .slice none 0 0] 41)) hb3 (by simp; omega)); have H3 := Lib.hid ((H1.out.alloc H1.out.size (.cells #[.int .i64 2, .int .i64 ((q.n : Int) / 4), .int .i64 0, .slice none 0 0] 41)).trans (hb3.mono (by have := H1.out.size; simp; omega))); have S3 := Lib.hid (Nat.lt_of_lt_of_le (show w1.heap.size < (w1.alloc (.cells #[.int .i64 2, .int .i64 ((q.n : Int) / 4), .int .i64 0, .slice none 0 0] 41)).heap.size by simp) hb3.size); have x0 : w3.cell? ⟨w1.heap.size, 0, none⟩ = some (.int .i64 2) := B2.out.cell 0; have x1 : w3.cell? ⟨w1.heap.size, 1, none⟩ = some (.int .i64 ((q.n : Int) / 4)) := B2.out.cell 1; have x2 : w3.cell? ⟨w1.heap.size, 2, none⟩ = some (.int .i64 0) := B2.out.cell 2; have x3 : w3.cell? ⟨w1.heap.size, 3, none⟩ = some (.slice none 0 0) := B2.out.cell 3; have y0 : w3.cell? ⟨w.heap.size, 0, none⟩ = some (.int .i64 0) := B0.out.cell 0; have y1 : w3.cell? ⟨w.heap.size, 1, none⟩ = some (.int .i64 0) := B0.out.cell 1; have y2 : w3.cell? ⟨w.heap.size, 2, none⟩ = some (.int .i64 0) := B0.out.cell 2; have y3 : w3.cell? ⟨w.heap.size, 3, none⟩ = some (.slice none 0 0) := B0.out.cell 3; have f2 := B2.out.frozen 2; have z0 := B0.out.frozen 0; have z1 := B0.out.frozen 1; have z2 := B0.out.frozen 2; have z3 := B0.out.frozen 3; clear hb3 T2))
  obtain ⟨B4, L4⟩ := B0.out.four (.int .i64 0) (.int .i64 0) (.int .i64 0) (.slice none 0 0)
  have e0 := B4.cell 0
  have e1 := B4.cell 1
  have e2 := B4.cell 2
  have e3 := B4.cell 3
  simp only [List.getElem?_toArray, List.getElem?_cons_zero, List.getElem?_cons_succ] at e0 e1 e2 e3
  refine bodyPost_ret (v := .tuple #[.agg #[.int .i64 0, .int .i64 0, .int .i64 0, .slice none 0 0], .slice none 0 0, .bool false]) (by simp [results, go_sem, e0, e1, e2, e3]) rfl ?_
  exact ⟨rfl, H3.out.trans L4⟩

set_option maxHeartbeats 8000000 in
set_option maxRecDepth 100000 in
theorem ritem_long_ne (a : Option Addr) (cap : Nat) (zs : List Int) (hlen : zs.length ≤ 100000) (hcap : zs.length ≤ cap) (hcm : cap ≤ 9223372036854775807) (hb : ∀ x ∈ zs, 0 ≤ x ∧ x ≤ 255) (w : World) (n₀ : Nat) (hn₀ : n₀ ≤ w.heap.size) (hr0 : Rd .u8 n₀ w a zs) (q : Num) (qs : List Num) (hs : scan 0 0 zs = q :: qs) (hbig : q.n ≤ 4003) (hm : q.n % 4 = 1) (p : Num) (ps : List Num) (hs2 : scan 0 0 (zs.drop q.k) = p :: ps) (hlong : zs.length - q.k - p.k < p.n) (hc : ¬ cap = q.k + p.k) :
    Calls Try.prog 30 #[.slice a zs.length cap] w (NoItem w) := by
  have hr := hr0.mono hn₀
  have HR0 := Lib.hid hr0
  clear hr0
  have hres : takeS zs = ((q.n : Int), (q.k : Int), 0) := by unfold takeS; rw [hs]
  have hres2 : takeS (zs.drop q.k) = ((p.n : Int), (p.k : Int), 0) := by unfold takeS; rw [hs2]
  have htk := rtake_len cap zs rfl hlen hcap hb (w := w.alloc (.cells #[.int .i64 0, .int .i64 0, .int .i64 0, .slice none 0 0] 41)) ((hr.below ((Below.refl _ w).alloc (Nat.le_refl _) _)).mono (by simp)) hres
  obtain ⟨hq0, hql, _, _⟩ := scan_first0 hb hs
  have hb2 : ∀ x ∈ zs.drop q.k, 0 ≤ x ∧ x ≤ 255 := fun x hx => hb x (List.mem_of_mem_drop hx)
  obtain ⟨hp0, hpl, _, _⟩ := scan_first0 hb2 hs2
  rw [List.length_drop] at hpl
  have hpn := p.hn
  have hne : ¬ cap = q.k := by omega
  have hne2 : ¬ cap - q.k = p.k := by omega
  obtain ⟨b, off, rfl, hbb, _⟩ := hr (by omega)
  have hqn := q.hn
  have hmod : (q.n : Int) % 4 = 1 := by omega
  have HRr := Lib.hid hr
  have htk2 : ∀ W, Below w.heap.size w W → Calls Try.prog 39 #[.slice (some ⟨b, off + q.k, none⟩) (zs.length - q.k) (cap - q.k)] W fun e w' => e = .returned (.tuple #[.int .u64 p.n, .int .i64 p.k, .int .i64 0]) ∧ Below W.heap.size W w' := fun W hW =>
    rtake_len (cap - q.k) (zs.drop q.k) (List.length_drop ..) (by omega) (by omega) hb2 (((HRr.out.drop q.k).below hW).mono hW.size) hres2
  have HT2 := Lib.hid htk2
  have T1 : True := trivial
  have T2 : True := trivial
  clear hres hres2 hs hs2 hm hr htk2
  go_enter Try.func30, Try.ntmps30
  go_wp2_with (first
    | (go_at_call 39; have _t1 := T1; (with_reducible refine htk.mono ?_); rintro e w1 ⟨rfl, hb1⟩; have BX := Lib.hid (Box.below (heap_alloc_new w (.cells #[.int .i64 0, .int .i64 0, .int .i64 0, .slice none 0 0] 41)) hb1 (by simp)); have H1 := Lib.hid (((Below.refl w.heap.size w).alloc (Nat.le_refl _) (.cells #[.int .i64 0, .int .i64 0, .int .i64 0, .slice none 0 0] 41)).trans (hb1.mono (by simp))); have hlt := BX.out.lt; clear hb1 T1)
    | (go_at_call 39; have _t2 := T2; (with_reducible refine (HT2.out _ (H1.out.alloc H1.out.size _)).mono ?_); rintro e w3 ⟨rfl, hb3⟩; have B2 := Lib.hid (Box.below (heap_alloc_new w1 (.cells #[.int .i64 2, .int .i64 ((q.n : Int) / 4), .int .i64 0, .slice none 0 0] 41)) hb3 (by simp)); have B0 := Lib.hid (Box.below (BX.out.alloc (.cells #[.int .i64 2, .int .i64 ((q.n : Int) / 4), .int .i64 0, .slice none 0 0] 41)) hb3 (by simp; omega)); have H3 := Lib.hid ((H1.out.alloc H1.out.size (.cells #[.int .i64 2, .int .i64 ((q.n : Int) / 4), .int .i64 0, .slice none 0 0] 41)).trans (hb3.mono (by have := H1.out.size; simp; omega))); have S3 := Lib.hid (Nat.lt_of_lt_of_le (show w1.heap.size < (w1.alloc (.cells #[.int .i64 2, .int .i64 ((q.n : Int) / 4), .int .i64 0, .slice none 0 0] 41)).heap.size by simp) hb3.size); have x0 : w3.cell? ⟨w1.heap.size, 0, none⟩ = some (.int .i64 2) := B2.out.cell 0; have x1 : w3.cell? ⟨w1.heap.size, 1, none⟩ = some (.int .i64 ((q.n : Int) / 4)) := B2.out.cell 1; have x2 : w3.cell? ⟨w1.heap.size, 2, none⟩ = some (.int .i64 0) := B2.out.cell 2; have x3 : w3.cell? ⟨w1.heap.size, 3, none⟩ = some (.slice none 0 0) := B2.out.cell 3; have y0 : w3.cell? ⟨w.heap.size, 0, none⟩ = some (.int .i64 0) := B0.out.cell 0; have y1 : w3.cell? ⟨w.heap.size, 1, none⟩ = some (.int .i64 0) := B0.out.cell 1; have y2 : w3.cell? ⟨w.heap.size, 2, none⟩ = some (.int .i64 0) := B0.out.cell 2; have y3 : w3.cell? ⟨w.heap.size, 3, none⟩ = some (.slice none 0 0) := B0.out.cell 3; have f2 := B2.out.frozen 2; have z0 := B0.out.frozen 0; have z1 := B0.out.frozen 1; have z2 := B0.out.frozen 2; have z3 := B0.out.frozen 3; clear hb3 T2))
  obtain ⟨B4, L4⟩ := B0.out.four (.int .i64 0) (.int .i64 0) (.int .i64 0) (.slice none 0 0)
  have e0 := B4.cell 0
  have e1 := B4.cell 1
  have e2 := B4.cell 2
  have e3 := B4.cell 3
  simp only [List.getElem?_toArray, List.getElem?_cons_zero, List.getElem?_cons_succ] at e0 e1 e2 e3
  refine bodyPost_ret (v := .tuple #[.agg #[.int .i64 0, .int .i64 0, .int .i64 0, .slice none 0 0], .slice none 0 0, .bool false]) (by simp [results, go_sem, e0, e1, e2, e3]) rfl ?_
  exact ⟨rfl, H3.out.trans L4⟩

theorem own_empty5 (w : World) : (w.alloc (.cells #[] 5)).ownsRow w.heap.size 5 1 (.slice (some ⟨w.heap.size, 0, none⟩) 0 0) 0 [] :=
  ⟨rfl, .inr ⟨w.heap.size, 0, #[], rfl, Nat.le_refl _, heap_alloc_new w _, Nat.le_refl _, by unfold maxLen; omega, rfl, rfl⟩⟩
set_option maxHeartbeats 8000000 in
set_option maxRecDepth 100000 in
theorem ritem_bytes_eq (a : Option Addr) (cap : Nat) (zs : List Int) (hlen : zs.length ≤ 100000) (hcap : zs.length ≤ cap) (hcm : cap ≤ 9223372036854775807) (hb : ∀ x ∈ zs, 0 ≤ x ∧ x ≤ 255) (w : World) (n₀ : Nat) (hn₀ : n₀ ≤ w.heap.size) (hr0 : Rd .u8 n₀ w a zs) (q : Num) (qs : List Num) (hs : scan 0 0 zs = q :: qs) (hbig : q.n ≤ 4003) (hm : q.n % 4 = 1) (p : Num) (ps : List Num) (hs2 : scan 0 0 (zs.drop q.k) = p :: ps) (hfit : p.n ≤ zs.length - q.k - p.k) (bs : List Int) (hbs : ((zs.drop q.k).drop p.k).take p.n = bs) (hc : cap = q.k + p.k) :
    Calls Try.prog 30 #[.slice a zs.length cap] w (AnItemD ⟨2, (q.n / 4 : Nat), 0, bs⟩ (((zs.drop q.k).drop p.k).drop p.n) n₀ w) := by
  obtain ⟨i0, hi, hz0, hz1, hz2⟩ := info_parts Try.info5
  have hr := hr0.mono hn₀
  have HR0 := Lib.hid hr0
  clear hr0
  have hres : takeS zs = ((q.n : Int), (q.k : Int), 0) := by unfold takeS; rw [hs]
  have hres2 : takeS (zs.drop q.k) = ((p.n : Int), (p.k : Int), 0) := by unfold takeS; rw [hs2]
  have htk := rtake_len cap zs rfl hlen hcap hb (w := w.alloc (.cells #[.int .i64 0, .int .i64 0, .int .i64 0, .slice none 0 0] 41)) ((hr.below ((Below.refl _ w).alloc (Nat.le_refl _) _)).mono (by simp)) hres
  obtain ⟨hq0, hql, _, _⟩ := scan_first0 hb hs
  have hb2 : ∀ x ∈ zs.drop q.k, 0 ≤ x ∧ x ≤ 255 := fun x hx => hb x (List.mem_of_mem_drop hx)
  obtain ⟨hp0, hpl, _, _⟩ := scan_first0 hb2 hs2
  rw [List.length_drop] at hpl
  have hpn := p.hn
  obtain rfl : cap = q.k + p.k := hc
  have hne : ¬ q.k + p.k = q.k := by omega
  obtain ⟨b, off, rfl, hbb, _⟩ := hr (by omega)
  have hqn := q.hn
  have hmod : (q.n : Int) % 4 = 1 := by omega
  have HRr := Lib.hid hr
  have hbl : bs.length = p.n := by rw [← hbs, List.length_take, List.length_drop, List.length_drop]; omega
  have RD0 : Rd .u8 w.heap.size w (some ⟨b, off + q.k, none⟩) bs := fun hp => by omega
  have RD := Lib.hid RD0
  have HBL := Lib.hid hbl
  clear RD0 hbs hbl
  have htk2 : ∀ W, Below w.heap.size w W → Calls Try.prog 39 #[.slice (some ⟨b, off + q.k, none⟩) (zs.length - q.k) p.k] W fun e w' => e = .returned (.tuple #[.int .u64 p.n, .int .i64 p.k, .int .i64 0]) ∧ Below W.heap.size W w' := fun W hW =>
    rtake_len p.k (zs.drop q.k) (List.length_drop ..) (by omega) (by omega) hb2 (((HRr.out.drop q.k).below hW).mono hW.size) hres2
  have HT2 := Lib.hid htk2
  have T1 : True := trivial
  have T2 : True := trivial
  clear hres hres2 hs hs2 hm hr htk2
  go_enter Try.func30, Try.ntmps30
  go_wp2_with (first
    | (go_at_call 39; have _t1 := T1; (with_reducible refine htk.mono ?_); rintro e w1 ⟨rfl, hb1⟩; have BX := Lib.hid (Box.below (heap_alloc_new w (.cells #[.int .i64 0, .int .i64 0, .int .i64 0, .slice none 0 0] 41)) hb1 (by simp)); have H1 := Lib.hid (((Below.refl w.heap.size w).alloc (Nat.le_refl _) (.cells #[.int .i64 0, .int .i64 0, .int .i64 0, .slice none 0 0] 41)).trans (hb1.mono (by simp))); have hlt := BX.out.lt; clear hb1 T1)
    | (go_at_call 39; have _t2 := T2; (with_reducible refine (HT2.out _ (H1.out.alloc H1.out.size _)).mono ?_); rintro e w3 ⟨rfl, hb3⟩; have B2 := Lib.hid (Box.below (heap_alloc_new w1 (.cells #[.int .i64 2, .int .i64 ((q.n : Int) / 4), .int .i64 0, .slice none 0 0] 41)) hb3 (by simp)); have B0 := Lib.hid (Box.below (BX.out.alloc (.cells #[.int .i64 2, .int .i64 ((q.n : Int) / 4), .int .i64 0, .slice none 0 0] 41)) hb3 (by simp; omega)); have H3 := Lib.hid ((H1.out.alloc H1.out.size (.cells #[.int .i64 2, .int .i64 ((q.n : Int) / 4), .int .i64 0, .slice none 0 0] 41)).trans (hb3.mono (by have := H1.out.size; simp; omega))); have S3 := Lib.hid (Nat.lt_of_lt_of_le (show w1.heap.size < (w1.alloc (.cells #[.int .i64 2, .int .i64 ((q.n : Int) / 4), .int .i64 0, .slice none 0 0] 41)).heap.size by simp) hb3.size); have x0 : w3.cell? ⟨w1.heap.size, 0, none⟩ = some (.int .i64 2) := B2.out.cell 0; have x1 : w3.cell? ⟨w1.heap.size, 1, none⟩ = some (.int .i64 ((q.n : Int) / 4)) := B2.out.cell 1; have x2 : w3.cell? ⟨w1.heap.size, 2, none⟩ = some (.int .i64 0) := B2.out.cell 2; have x3 : w3.cell? ⟨w1.heap.size, 3, none⟩ = some (.slice none 0 0) := B2.out.cell 3; have y0 : w3.cell? ⟨w.heap.size, 0, none⟩ = some (.int .i64 0) := B0.out.cell 0; have y1 : w3.cell? ⟨w.heap.size, 1, none⟩ = some (.int .i64 0) := B0.out.cell 1; have y2 : w3.cell? ⟨w.heap.size, 2, none⟩ = some (.int .i64 0) := B0.out.cell 2; have y3 : w3.cell? ⟨w.heap.size, 3, none⟩ = some (.slice none 0 0) := B0.out.cell 3; have f2 := B2.out.frozen 2; have z0 := B0.out.frozen 0; have z1 := B0.out.frozen 1; have z2 := B0.out.frozen 2; have z3 := B0.out.frozen 3; clear hb3 T2)
    | (at_builtin; refine wpList_append_own _ rfl _ _ 25 rfl w3.heap.size 5 i0 (.int .u8 0) 1 1 Try.underlying25 hi hz0 hz1 hz2 rfl (by decide) (.slice (some ⟨w3.heap.size, 0, none⟩) 0 0) 0 [] rfl (own_empty5 w3) ⟨b, off + q.k, none⟩ p.n 0 (bs.map (Value.int .u8)) rfl (by rw [List.length_map, HBL.out, Nat.mul_one]) (RD.out.below (H3.out.alloc H3.out.size _)).news (one_u8 _) (by unfold maxLen; omega) (by omega) (by simp) ?_; intro v1 X1 ho hg hn'; rw [Nat.zero_add, List.nil_append] at ho; have hbX := (Below.refl w3.heap.size _).grown hg (by simp) (fun j hj => by simp [Value.ownBlock] at hj; omega); obtain ⟨V, vc, rfl, hvc⟩ := own_form ho; have B4' := Lib.hid (Box.below (B2.out.alloc (.cells #[] 5)) hbX S3.out); have B0' := Lib.hid (Box.below (B0.out.alloc (.cells #[] 5)) hbX B0.out.lt); clear x0 x1 x2 x3 y0 y1 y2 y3 f2 z0 z1 z2 z3; have x0 : X1.cell? ⟨w1.heap.size, 0, none⟩ = some (.int .i64 2) := B4'.out.cell 0; have x1 : X1.cell? ⟨w1.heap.size, 1, none⟩ = some (.int .i64 ((q.n : Int) / 4)) := B4'.out.cell 1; have x2 : X1.cell? ⟨w1.heap.size, 2, none⟩ = some (.int .i64 0) := B4'.out.cell 2; have x3 : X1.cell? ⟨w1.heap.size, 3, none⟩ = some (.slice none 0 0) := B4'.out.cell 3; have y0 : X1.cell? ⟨w.heap.size, 0, none⟩ = some (.int .i64 0) := B0'.out.cell 0; have y1 : X1.cell? ⟨w.heap.size, 1, none⟩ = some (.int .i64 0) := B0'.out.cell 1; have y2 : X1.cell? ⟨w.heap.size, 2, none⟩ = some (.int .i64 0) := B0'.out.cell 2; have y3 : X1.cell? ⟨w.heap.size, 3, none⟩ = some (.slice none 0 0) := B0'.out.cell 3; have f3 := B4'.out.frozen 3; have z0 := B0'.out.frozen 0; have z1 := B0'.out.frozen 1; have z2 := B0'.out.frozen 2; have z3 := B0'.out.frozen 3; have O4 := Lib.hid ho; have H4 := Lib.hid ((H3.out.alloc H3.out.size _).trans (hbX.mono H3.out.size)); clear ho hg hn' hbX hvc))
  go_region
  go_wp2
  obtain ⟨B4, L4⟩ := (B0'.out.far (B' := w1.heap.size) (by omega) 3 (.slice V p.n vc)).four (.int .i64 2) (.int .i64 ((q.n : Int) / 4)) (.int .i64 0) (.slice V p.n vc)
  have e0 := B4.cell 0
  have e1 := B4.cell 1
  have e2 := B4.cell 2
  have e3 := B4.cell 3
  simp only [List.getElem?_toArray, List.getElem?_cons_zero, List.getElem?_cons_succ] at e0 e1 e2 e3
  have s3 : w1.heap.size < w3.heap.size := S3.out
  have s1 : w.heap.size ≤ w1.heap.size := H1.out.size
  refine bodyPost_ret (v := .tuple #[.agg #[.int .i64 2, .int .i64 ((q.n : Int) / 4), .int .i64 0, .slice V p.n vc], .slice (some ⟨b, off + q.k, none⟩) (zs.length - q.k - p.k - p.n) 0, .bool true]) (by simp [results, go_sem, e0, e1, e2, e3]) rfl ?_
  have s2 : w.heap.size < w3.heap.size := by omega
  have hO := own_mono (base' := w.heap.size) (own_far (b := w.heap.size) (i := 3) (own_far (b := w.heap.size) (i := 2) (own_far (b := w.heap.size) (i := 1) (own_far (b := w.heap.size) (i := 0) (own_far (b := w1.heap.size) (i := 3) O4.out s3 (.slice V p.n vc)) s2 (.int .i64 2)) s2 (.int .i64 ((q.n : Int) / 4))) s2 (.int .i64 0)) s2 (.slice V p.n vc)) (by omega)
  have hB := (H4.out.setCell (p := ⟨w1.heap.size, 3, none⟩) s1 (.slice V p.n vc)).trans L4
  unfold AnItemD
  simp only [HBL.out]
  exact ⟨V, vc, some ⟨b, off + q.k, none⟩, 0, by rw [List.length_drop, List.length_drop, List.length_drop]; rfl, hO, by rw [List.length_drop, List.length_drop, List.length_drop]; omega, by omega, (fun hp => by rw [List.length_drop, List.length_drop, List.length_drop] at hp; omega), hB.drew⟩

set_option maxHeartbeats 8000000 in
set_option maxRecDepth 100000 in
theorem ritem_bytes_mid (a : Option Addr) (cap : Nat) (zs : List Int) (hlen : zs.length ≤ 100000) (hcap : zs.length ≤ cap) (hcm : cap ≤ 9223372036854775807) (hb : ∀ x ∈ zs, 0 ≤ x ∧ x ≤ 255) (w : World) (n₀ : Nat) (hn₀ : n₀ ≤ w.heap.size) (hr0 : Rd .u8 n₀ w a zs) (q : Num) (qs : List Num) (hs : scan 0 0 zs = q :: qs) (hbig : q.n ≤ 4003) (hm : q.n % 4 = 1) (p : Num) (ps : List Num) (hs2 : scan 0 0 (zs.drop q.k) = p :: ps) (hfit : p.n ≤ zs.length - q.k - p.k) (bs : List Int) (hbs : ((zs.drop q.k).drop p.k).take p.n = bs) (hc : ¬ cap = q.k + p.k) (hc2 : cap = q.k + p.k + p.n) :
    Calls Try.prog 30 #[.slice a zs.length cap] w (AnItemD ⟨2, (q.n / 4 : Nat), 0, bs⟩ (((zs.drop q.k).drop p.k).drop p.n) n₀ w) := by
  obtain ⟨i0, hi, hz0, hz1, hz2⟩ := info_parts Try.info5
  have hr := hr0.mono hn₀
  have HR0 := Lib.hid hr0
  clear hr0
  have hres : takeS zs = ((q.n : Int), (q.k : Int), 0) := by unfold takeS; rw [hs]
  have hres2 : takeS (zs.drop q.k) = ((p.n : Int), (p.k : Int), 0) := by unfold takeS; rw [hs2]
  have htk := rtake_len cap zs rfl hlen hcap hb (w := w.alloc (.cells #[.int .i64 0, .int .i64 0, .int .i64 0, .slice none 0 0] 41)) ((hr.below ((Below.refl _ w).alloc (Nat.le_refl _) _)).mono (by simp)) hres
  obtain ⟨hq0, hql, _, _⟩ := scan_first0 hb hs
  have hb2 : ∀ x ∈ zs.drop q.k, 0 ≤ x ∧ x ≤ 255 := fun x hx => hb x (List.mem_of_mem_drop hx)
  obtain ⟨hp0, hpl, _, _⟩ := scan_first0 hb2 hs2
  rw [List.length_drop] at hpl
  have hpn := p.hn
  obtain rfl : cap = q.k + p.k + p.n := hc2
  have hne : ¬ q.k + p.k + p.n = q.k := by omega
  have hne2 : ¬ q.k + p.k + p.n - q.k = p.k := by omega
  obtain ⟨b, off, rfl, hbb, _⟩ := hr (by omega)
  have hqn := q.hn
  have hmod : (q.n : Int) % 4 = 1 := by omega
  have HRr := Lib.hid hr
  have hbl : bs.length = p.n := by rw [← hbs, List.length_take, List.length_drop, List.length_drop]; omega
  have RD0 : Rd .u8 w.heap.size w (some ⟨b, off + q.k + p.k, none⟩) bs := by
    have h := ((HRr.out.drop q.k).drop p.k).take p.n
    rwa [hbs] at h
  have RD := Lib.hid RD0
  have HBL := Lib.hid hbl
  clear RD0 hbs hbl
  have htk2 : ∀ W, Below w.heap.size w W → Calls Try.prog 39 #[.slice (some ⟨b, off + q.k, none⟩) (zs.length - q.k) (q.k + p.k + p.n - q.k)] W fun e w' => e = .returned (.tuple #[.int .u64 p.n, .int .i64 p.k, .int .i64 0]) ∧ Below W.heap.size W w' := fun W hW =>
    rtake_len (q.k + p.k + p.n - q.k) (zs.drop q.k) (List.length_drop ..) (by omega) (by omega) hb2 (((HRr.out.drop q.k).below hW).mono hW.size) hres2
  have HT2 := Lib.hid htk2
  have T1 : True := trivial
  have T2 : True := trivial
  clear hres hres2 hs hs2 hm hr htk2
  go_enter Try.func30, Try.ntmps30
  go_wp2_with (first
    | (go_at_call 39; have _t1 := T1; (with_reducible refine htk.mono ?_); rintro e w1 ⟨rfl, hb1⟩; have BX := Lib.hid (Box.below (heap_alloc_new w (.cells #[.int .i64 0, .int .i64 0, .int .i64 0, .slice none 0 0] 41)) hb1 (by simp)); have H1 := Lib.hid (((Below.refl w.heap.size w).alloc (Nat.le_refl _) (.cells #[.int .i64 0, .int .i64 0, .int .i64 0, .slice none 0 0] 41)).trans (hb1.mono (by simp))); have hlt := BX.out.lt; clear hb1 T1)
    | (go_at_call 39; have _t2 := T2; (with_reducible refine (HT2.out _ (H1.out.alloc H1.out.size _)).mono ?_); rintro e w3 ⟨rfl, hb3⟩; have B2 := Lib.hid (Box.below (heap_alloc_new w1 (.cells #[.int .i64 2, .int .i64 ((q.n : Int) / 4), .int .i64 0, .slice none 0 0] 41)) hb3 (by simp)); have B0 := Lib.hid (Box.below (BX.out.alloc (.cells #[.int .i64 2, .int .i64 ((q.n : Int) / 4), .int .i64 0, .slice none 0 0] 41)) hb3 (by simp; omega)); have H3 := Lib.hid ((H1.out.alloc H1.out.size (.cells #[.int .i64 2, .int .i64 ((q.n : Int) / 4), .int .i64 0, .slice none 0 0] 41)).trans (hb3.mono (by have := H1.out.size; simp; omega))); have S3 := Lib.hid (Nat.lt_of_lt_of_le (show w1.heap.size < (w1.alloc (.cells #[.int .i64 2, .int .i64 ((q.n : Int) / 4), .int .i64 0, .slice none 0 0] 41)).heap.size by simp) hb3.size); have x0 : w3.cell? ⟨w1.heap.size, 0, none⟩ = some (.int .i64 2) := B2.out.cell 0; have x1 : w3.cell? ⟨w1.heap.size, 1, none⟩ = some (.int .i64 ((q.n : Int) / 4)) := B2.out.cell 1; have x2 : w3.cell? ⟨w1.heap.size, 2, none⟩ = some (.int .i64 0) := B2.out.cell 2; have x3 : w3.cell? ⟨w1.heap.size, 3, none⟩ = some (.slice none 0 0) := B2.out.cell 3; have y0 : w3.cell? ⟨w.heap.size, 0, none⟩ = some (.int .i64 0) := B0.out.cell 0; have y1 : w3.cell? ⟨w.heap.size, 1, none⟩ = some (.int .i64 0) := B0.out.cell 1; have y2 : w3.cell? ⟨w.heap.size, 2, none⟩ = some (.int .i64 0) := B0.out.cell 2; have y3 : w3.cell? ⟨w.heap.size, 3, none⟩ = some (.slice none 0 0) := B0.out.cell 3; have f2 := B2.out.frozen 2; have z0 := B0.out.frozen 0; have z1 := B0.out.frozen 1; have z2 := B0.out.frozen 2; have z3 := B0.out.frozen 3; clear hb3 T2)
    | (at_builtin; refine wpList_append_own _ rfl _ _ 25 rfl w3.heap.size 5 i0 (.int .u8 0) 1 1 Try.underlying25 hi hz0 hz1 hz2 rfl (by decide) (.slice (some ⟨w3.heap.size, 0, none⟩) 0 0) 0 [] rfl (own_empty5 w3) ⟨b, off + q.k + p.k, none⟩ p.n (q.k + p.k + p.n - q.k - p.k) (bs.map (Value.int .u8)) rfl (by rw [List.length_map, HBL.out, Nat.mul_one]) (RD.out.below (H3.out.alloc H3.out.size _)).news (one_u8 _) (by unfold maxLen; omega) (by omega) (by simp) ?_; intro v1 X1 ho hg hn'; rw [Nat.zero_add, List.nil_append] at ho; have hbX := (Below.refl w3.heap.size _).grown hg (by simp) (fun j hj => by simp [Value.ownBlock] at hj; omega); obtain ⟨V, vc, rfl, hvc⟩ := own_form ho; have B4' := Lib.hid (Box.below (B2.out.alloc (.cells #[] 5)) hbX S3.out); have B0' := Lib.hid (Box.below (B0.out.alloc (.cells #[] 5)) hbX B0.out.lt); clear x0 x1 x2 x3 y0 y1 y2 y3 f2 z0 z1 z2 z3; have x0 : X1.cell? ⟨w1.heap.size, 0, none⟩ = some (.int .i64 2) := B4'.out.cell 0; have x1 : X1.cell? ⟨w1.heap.size, 1, none⟩ = some (.int .i64 ((q.n : Int) / 4)) := B4'.out.cell 1; have x2 : X1.cell? ⟨w1.heap.size, 2, none⟩ = some (.int .i64 0) := B4'.out.cell 2; have x3 : X1.cell? ⟨w1.heap.size, 3, none⟩ = some (.slice none 0 0) := B4'.out.cell 3; have y0 : X1.cell? ⟨w.heap.size, 0, none⟩ = some (.int .i64 0) := B0'.out.cell 0; have y1 : X1.cell? ⟨w.heap.size, 1, none⟩ = some (.int .i64 0) := B0'.out.cell 1; have y2 : X1.cell? ⟨w.heap.size, 2, none⟩ = some (.int .i64 0) := B0'.out.cell 2; have y3 : X1.cell? ⟨w.heap.size, 3, none⟩ = some (.slice none 0 0) := B0'.out.cell 3; have f3 := B4'.out.frozen 3; have z0 := B0'.out.frozen 0; have z1 := B0'.out.frozen 1; have z2 := B0'.out.frozen 2; have z3 := B0'.out.frozen 3; have O4 := Lib.hid ho; have H4 := Lib.hid ((H3.out.alloc H3.out.size _).trans (hbX.mono H3.out.size)); clear ho hg hn' hbX hvc))
  go_region
  go_wp2
  obtain ⟨B4, L4⟩ := (B0'.out.far (B' := w1.heap.size) (by omega) 3 (.slice V p.n vc)).four (.int .i64 2) (.int .i64 ((q.n : Int) / 4)) (.int .i64 0) (.slice V p.n vc)
  have e0 := B4.cell 0
  have e1 := B4.cell 1
  have e2 := B4.cell 2
  have e3 := B4.cell 3
  simp only [List.getElem?_toArray, List.getElem?_cons_zero, List.getElem?_cons_succ] at e0 e1 e2 e3
  have s3 : w1.heap.size < w3.heap.size := S3.out
  have s1 : w.heap.size ≤ w1.heap.size := H1.out.size
  refine bodyPost_ret (v := .tuple #[.agg #[.int .i64 2, .int .i64 ((q.n : Int) / 4), .int .i64 0, .slice V p.n vc], .slice (some ⟨b, off + q.k + p.k, none⟩) (zs.length - q.k - p.k - p.n) (q.k + p.k + p.n - q.k - p.k - p.n), .bool true]) (by simp [results, go_sem, e0, e1, e2, e3]) rfl ?_
  have s2 : w.heap.size < w3.heap.size := by omega
  have hO := own_mono (base' := w.heap.size) (own_far (b := w.heap.size) (i := 3) (own_far (b := w.heap.size) (i := 2) (own_far (b := w.heap.size) (i := 1) (own_far (b := w.heap.size) (i := 0) (own_far (b := w1.heap.size) (i := 3) O4.out s3 (.slice V p.n vc)) s2 (.int .i64 2)) s2 (.int .i64 ((q.n : Int) / 4))) s2 (.int .i64 0)) s2 (.slice V p.n vc)) (by omega)
  have hB := (H4.out.setCell (p := ⟨w1.heap.size, 3, none⟩) s1 (.slice V p.n vc)).trans L4
  unfold AnItemD
  simp only [HBL.out]
  exact ⟨V, vc, some ⟨b, off + q.k + p.k, none⟩, q.k + p.k + p.n - q.k - p.k - p.n, by rw [List.length_drop, List.length_drop, List.length_drop]; rfl, hO, by rw [List.length_drop, List.length_drop, List.length_drop]; omega, by omega, (fun hp => by rw [List.length_drop, List.length_drop, List.length_drop] at hp; omega), hB.drew⟩

set_option maxHeartbeats 8000000 in
set_option maxRecDepth 100000 in
theorem ritem_bytes_ne (a : Option Addr) (cap : Nat) (zs : List Int) (hlen : zs.length ≤ 100000) (hcap : zs.length ≤ cap) (hcm : cap ≤ 9223372036854775807) (hb : ∀ x ∈ zs, 0 ≤ x ∧ x ≤ 255) (w : World) (n₀ : Nat) (hn₀ : n₀ ≤ w.heap.size) (hr0 : Rd .u8 n₀ w a zs) (q : Num) (qs : List Num) (hs : scan 0 0 zs = q :: qs) (hbig : q.n ≤ 4003) (hm : q.n % 4 = 1) (p : Num) (ps : List Num) (hs2 : scan 0 0 (zs.drop q.k) = p :: ps) (hfit : p.n ≤ zs.length - q.k - p.k) (bs : List Int) (hbs : ((zs.drop q.k).drop p.k).take p.n = bs) (hc : ¬ cap = q.k + p.k) (hc2 : ¬ cap = q.k + p.k + p.n) :
    Calls Try.prog 30 #[.slice a zs.length cap] w (AnItemD ⟨2, (q.n / 4 : Nat), 0, bs⟩ (((zs.drop q.k).drop p.k).drop p.n) n₀ w) := by
  obtain ⟨i0, hi, hz0, hz1, hz2⟩ := info_parts Try.info5
  have hr := hr0.mono hn₀
  have HR0 := Lib.hid hr0
  clear hr0
  have hres : takeS zs = ((q.n : Int), (q.k : Int), 0) := by unfold takeS; rw [hs]
  have hres2 : takeS (zs.drop q.k) = ((p.n : Int), (p.k : Int), 0) := by unfold takeS; rw [hs2]
  have htk := rtake_len cap zs rfl hlen hcap hb (w := w.alloc (.cells #[.int .i64 0, .int .i64 0, .int .i64 0, .slice none 0 0] 41)) ((hr.below ((Below.refl _ w).alloc (Nat.le_refl _) _)).mono (by simp)) hres
  obtain ⟨hq0, hql, _, _⟩ := scan_first0 hb hs
  have hb2 : ∀ x ∈ zs.drop q.k, 0 ≤ x ∧ x ≤ 255 := fun x hx => hb x (List.mem_of_mem_drop hx)
  obtain ⟨hp0, hpl, _, _⟩ := scan_first0 hb2 hs2
  rw [List.length_drop] at hpl
  have hpn := p.hn
  have hne : ¬ cap = q.k := by omega
  have hne2 : ¬ cap - q.k = p.k := by omega
  have hne3 : ¬ cap - q.k - p.k = p.n := by omega
  obtain ⟨b, off, rfl, hbb, _⟩ := hr (by omega)
  have hqn := q.hn
  have hmod : (q.n : Int) % 4 = 1 := by omega
  have HRr := Lib.hid hr
  have hbl : bs.length = p.n := by rw [← hbs, List.length_take, List.length_drop, List.length_drop]; omega
  have RD0 : Rd .u8 w.heap.size w (some ⟨b, off + q.k + p.k, none⟩) bs := by
    have h := ((HRr.out.drop q.k).drop p.k).take p.n
    rwa [hbs] at h
  have RD := Lib.hid RD0
  have HBL := Lib.hid hbl
  clear RD0 hbs hbl
  have htk2 : ∀ W, Below w.heap.size w W → Calls Try.prog 39 #[.slice (some ⟨b, off + q.k, none⟩) (zs.length - q.k) (cap - q.k)] W fun e w' => e = .returned (.tuple #[.int .u64 p.n, .int .i64 p.k, .int .i64 0]) ∧ Below W.heap.size W w' := fun W hW =>
    rtake_len (cap - q.k) (zs.drop q.k) (List.length_drop ..) (by omega) (by omega) hb2 (((HRr.out.drop q.k).below hW).mono hW.size) hres2
  have HT2 := Lib.hid htk2
  have T1 : True := trivial
  have T2 : True := trivial
  clear hres hres2 hs hs2 hm hr htk2
  go_enter Try.func30, Try.ntmps30
  go_wp2_with (first
    | (go_at_call 39; have _t1 := T1; (with_reducible refine htk.mono ?_); rintro e w1 ⟨rfl, hb1⟩; have BX := Lib.hid (Box.below (heap_alloc_new w (.cells #[.int .i64 0, .int .i64 0, .int .i64 0, .slice none 0 0] 41)) hb1 (by simp)); have H1 := Lib.hid (((Below.refl w.heap.size w).alloc (Nat.le_refl _) (.cells #[.int .i64 0, .int .i64 0, .int .i64 0, .slice none 0 0] 41)).trans (hb1.mono (by simp))); have hlt := BX.out.lt; clear hb1 T1)
    | (go_at_call 39; have _t2 := T2; (with_reducible refine (HT2.out _ (H1.out.alloc H1.out.size _)).mono ?_); rintro e w3 ⟨rfl, hb3⟩; have B2 := Lib.hid (Box.below (heap_alloc_new w1 (.cells #[.int .i64 2, .int .i64 ((q.n : Int) / 4), .int .i64 0, .slice none 0 0] 41)) hb3 (by simp)); have B0 := Lib.hid (Box.below (BX.out.alloc (.cells #[.int .i64 2, .int .i64 ((q.n : Int) / 4), .int .i64 0, .slice none 0 0] 41)) hb3 (by simp; omega)); have H3 := Lib.hid ((H1.out.alloc H1.out.size (.cells #[.int .i64 2, .int .i64 ((q.n : Int) / 4), .int .i64 0, .slice none 0 0] 41)).trans (hb3.mono (by have := H1.out.size; simp; omega))); have S3 := Lib.hid (Nat.lt_of_lt_of_le (show w1.heap.size < (w1.alloc (.cells #[.int .i64 2, .int .i64 ((q.n : Int) / 4), .int .i64 0, .slice none 0 0] 41)).heap.size by simp) hb3.size); have x0 : w3.cell? ⟨w1.heap.size, 0, none⟩ = some (.int .i64 2) := B2.out.cell 0; have x1 : w3.cell? ⟨w1.heap.size, 1, none⟩ = some (.int .i64 ((q.n : Int) / 4)) := B2.out.cell 1; have x2 : w3.cell? ⟨w1.heap.size, 2, none⟩ = some (.int .i64 0) := B2.out.cell 2; have x3 : w3.cell? ⟨w1.heap.size, 3, none⟩ = some (.slice none 0 0) := B2.out.cell 3; have y0 : w3.cell? ⟨w.heap.size, 0, none⟩ = some (.int .i64 0) := B0.out.cell 0; have y1 : w3.cell? ⟨w.heap.size, 1, none⟩ = some (.int .i64 0) := B0.out.cell 1; have y2 : w3.cell? ⟨w.heap.size, 2, none⟩ = some (.int .i64 0) := B0.out.cell 2; have y3 : w3.cell? ⟨w.heap.size, 3, none⟩ = some (.slice none 0 0) := B0.out.cell 3; have f2 := B2.out.frozen 2; have z0 := B0.out.frozen 0; have z1 := B0.out.frozen 1; have z2 := B0.out.frozen 2; have z3 := B0.out.frozen 3; clear hb3 T2)
    | (at_builtin; refine wpList_append_own _ rfl _ _ 25 rfl w3.heap.size 5 i0 (.int .u8 0) 1 1 Try.underlying25 hi hz0 hz1 hz2 rfl (by decide) (.slice (some ⟨w3.heap.size, 0, none⟩) 0 0) 0 [] rfl (own_empty5 w3) ⟨b, off + q.k + p.k, none⟩ p.n (cap - q.k - p.k) (bs.map (Value.int .u8)) rfl (by rw [List.length_map, HBL.out, Nat.mul_one]) (RD.out.below (H3.out.alloc H3.out.size _)).news (one_u8 _) (by unfold maxLen; omega) (by omega) (by simp) ?_; intro v1 X1 ho hg hn'; rw [Nat.zero_add, List.nil_append] at ho; have hbX := (Below.refl w3.heap.size _).grown hg (by simp) (fun j hj => by simp [Value.ownBlock] at hj; omega); obtain ⟨V, vc, rfl, hvc⟩ := own_form ho; have B4' := Lib.hid (Box.below (B2.out.alloc (.cells #[] 5)) hbX S3.out); have B0' := Lib.hid (Box.below (B0.out.alloc (.cells #[] 5)) hbX B0.out.lt); clear x0 x1 x2 x3 y0 y1 y2 y3 f2 z0 z1 z2 z3; have x0 : X1.cell? ⟨w1.heap.size, 0, none⟩ = some (.int .i64 2) := B4'.out.cell 0; have x1 : X1.cell? ⟨w1.heap.size, 1, none⟩ = some (.int .i64 ((q.n : Int) / 4)) := B4'.out.cell 1; have x2 : X1.cell? ⟨w1.heap.size, 2, none⟩ = some (.int .i64 0) := B4'.out.cell 2; have x3 : X1.cell? ⟨w1.heap.size, 3, none⟩ = some (.slice none 0 0) := B4'.out.cell 3; have y0 : X1.cell? ⟨w.heap.size, 0, none⟩ = some (.int .i64 0) := B0'.out.cell 0; have y1 : X1.cell? ⟨w.heap.size, 1, none⟩ = some (.int .i64 0) := B0'.out.cell 1; have y2 : X1.cell? ⟨w.heap.size, 2, none⟩ = some (.int .i64 0) := B0'.out.cell 2; have y3 : X1.cell? ⟨w.heap.size, 3, none⟩ = some (.slice none 0 0) := B0'.out.cell 3; have f3 := B4'.out.frozen 3; have z0 := B0'.out.frozen 0; have z1 := B0'.out.frozen 1; have z2 := B0'.out.frozen 2; have z3 := B0'.out.frozen 3; have O4 := Lib.hid ho; have H4 := Lib.hid ((H3.out.alloc H3.out.size _).trans (hbX.mono H3.out.size)); clear ho hg hn' hbX hvc))
  go_region
  go_wp2
  obtain ⟨B4, L4⟩ := (B0'.out.far (B' := w1.heap.size) (by omega) 3 (.slice V p.n vc)).four (.int .i64 2) (.int .i64 ((q.n : Int) / 4)) (.int .i64 0) (.slice V p.n vc)
  have e0 := B4.cell 0
  have e1 := B4.cell 1
  have e2 := B4.cell 2
  have e3 := B4.cell 3
  simp only [List.getElem?_toArray, List.getElem?_cons_zero, List.getElem?_cons_succ] at e0 e1 e2 e3
  have s3 : w1.heap.size < w3.heap.size := S3.out
  have s1 : w.heap.size ≤ w1.heap.size := H1.out.size
  refine bodyPost_ret (v := .tuple #[.agg #[.int .i64 2, .int .i64 ((q.n : Int) / 4), .int .i64 0, .slice V p.n vc], .slice (some ⟨b, off + q.k + p.k + p.n, none⟩) (zs.length - q.k - p.k - p.n) (cap - q.k - p.k - p.n), .bool true]) (by simp [results, go_sem, e0, e1, e2, e3]) rfl ?_
  have s2 : w.heap.size < w3.heap.size := by omega
  have hO := own_mono (base' := w.heap.size) (own_far (b := w.heap.size) (i := 3) (own_far (b := w.heap.size) (i := 2) (own_far (b := w.heap.size) (i := 1) (own_far (b := w.heap.size) (i := 0) (own_far (b := w1.heap.size) (i := 3) O4.out s3 (.slice V p.n vc)) s2 (.int .i64 2)) s2 (.int .i64 ((q.n : Int) / 4))) s2 (.int .i64 0)) s2 (.slice V p.n vc)) (by omega)
  have hB := (H4.out.setCell (p := ⟨w1.heap.size, 3, none⟩) s1 (.slice V p.n vc)).trans L4
  unfold AnItemD
  simp only [HBL.out]
  exact ⟨V, vc, some ⟨b, off + q.k + p.k + p.n, none⟩, cap - q.k - p.k - p.n, by rw [List.length_drop, List.length_drop, List.length_drop]; rfl, hO, by rw [List.length_drop, List.length_drop, List.length_drop]; omega, by omega, ((HR0.out.drop q.k).drop p.k).drop p.n, hB.drew⟩

theorem ritem_some {a : Option Addr} {cap : Nat} {zs : List Int} (hlen : zs.length ≤ 100000) (hcap : zs.length ≤ cap) (hcm : cap ≤ 9223372036854775807) (hb : ∀ x ∈ zs, 0 ≤ x ∧ x ≤ 255) {w : World} {n₀ : Nat} (hn₀ : n₀ ≤ w.heap.size) (hr : Rd .u8 n₀ w a zs) {x : It} {rest : List Int} (h : itemS zs = some (x, rest)) :
    Calls Try.prog 30 #[.slice a zs.length cap] w (AnItemD x rest n₀ w) := by
  unfold itemS at h
  rcases hs : scan 0 0 zs with _ | ⟨q, qs⟩
  · rw [hs] at h; cases h
  · rw [hs] at h
    simp only at h
    by_cases hbig : 4003 < q.n
    · rw [if_pos hbig] at h; cases h
    rw [if_neg hbig] at h
    by_cases hm : q.n % 4 = 2 ∨ q.n % 4 = 3
    · rw [if_pos hm] at h
      injection h with h
      injection h with h1 h2
      subst h1 h2
      exact ritem_group a cap zs hlen hcap hcm hb w n₀ hn₀ hr q qs hs (by omega) _ rfl hm
    · rw [if_neg hm] at h
      rcases hs2 : scan 0 0 (zs.drop q.k) with _ | ⟨p, ps⟩
      · rw [hs2] at h; cases h
      · rw [hs2] at h
        simp only at h
        by_cases h0 : q.n % 4 = 0
        · rw [if_pos h0] at h
          injection h with h
          injection h with h1 h2
          subst h1 h2
          by_cases hc : cap = q.k + p.k
          · exact ritem_int_eq a cap zs hlen hcap hcm hb w n₀ hn₀ hr q qs hs (by omega) h0 p ps hs2 hc
          · exact ritem_int_ne a cap zs hlen hcap hcm hb w n₀ hn₀ hr q qs hs (by omega) h0 p ps hs2 hc
        · rw [if_neg h0] at h
          by_cases hl : ((zs.drop q.k).drop p.k).length < p.n
          · rw [if_pos hl] at h; cases h
          · rw [if_neg hl] at h
            injection h with h
            injection h with h1 h2
            subst h1 h2
            rw [List.length_drop, List.length_drop] at hl
            by_cases hc : cap = q.k + p.k
            · exact ritem_bytes_eq a cap zs hlen hcap hcm hb w n₀ hn₀ hr q qs hs (by omega) (by omega) p ps hs2 (by omega) _ rfl hc
            · by_cases hc2 : cap = q.k + p.k + p.n
              · exact ritem_bytes_mid a cap zs hlen hcap hcm hb w n₀ hn₀ hr q qs hs (by omega) (by omega) p ps hs2 (by omega) _ rfl hc hc2
              · exact ritem_bytes_ne a cap zs hlen hcap hcm hb w n₀ hn₀ hr q qs hs (by omega) (by omega) p ps hs2 (by omega) _ rfl hc hc2
theorem ritem_none {a : Option Addr} {cap : Nat} {zs : List Int} (hlen : zs.length ≤ 100000) (hcap : zs.length ≤ cap) (hcm : cap ≤ 9223372036854775807) (hb : ∀ x ∈ zs, 0 ≤ x ∧ x ≤ 255) {w : World} {n₀ : Nat} (hn₀ : n₀ ≤ w.heap.size) (hr : Rd .u8 n₀ w a zs) (h : itemS zs = none) :
    Calls Try.prog 30 #[.slice a zs.length cap] w (NoItem w) := by
  unfold itemS at h
  rcases hs : scan 0 0 zs with _ | ⟨q, qs⟩
  · exact item_none1 a cap zs hlen hcap hb w (hr.mono hn₀) hs
  · rw [hs] at h
    simp only at h
    by_cases hbig : 4003 < q.n
    · exact item_none0 a cap zs hlen hcap hb w (hr.mono hn₀) q qs hs hbig
    rw [if_neg hbig] at h
    by_cases hm : q.n % 4 = 2 ∨ q.n % 4 = 3
    · rw [if_pos hm] at h; cases h
    · rw [if_neg hm] at h
      rcases hs2 : scan 0 0 (zs.drop q.k) with _ | ⟨p, ps⟩
      · by_cases h0 : q.n % 4 = 0
        · by_cases hc : cap = q.k
          · exact ritem_none2_0eq a cap zs hlen hcap hcm hb w n₀ hn₀ hr q qs hs (by omega) h0 hs2 hc
          · exact ritem_none2_0ne a cap zs hlen hcap hcm hb w n₀ hn₀ hr q qs hs (by omega) h0 hs2 hc
        · by_cases hc : cap = q.k
          · exact ritem_none2_1eq a cap zs hlen hcap hcm hb w n₀ hn₀ hr q qs hs (by omega) (by omega) hs2 hc
          · exact ritem_none2_1ne a cap zs hlen hcap hcm hb w n₀ hn₀ hr q qs hs (by omega) (by omega) hs2 hc
      · rw [hs2] at h
        simp only at h
        by_cases h0 : q.n % 4 = 0
        · rw [if_pos h0] at h; cases h
        · rw [if_neg h0] at h
          by_cases hl : ((zs.drop q.k).drop p.k).length < p.n
          · rw [List.length_drop, List.length_drop] at hl
            by_cases hc : cap = q.k + p.k
            · exact ritem_long_eq a cap zs hlen hcap hcm hb w n₀ hn₀ hr q qs hs (by omega) (by omega) p ps hs2 hl hc
            · exact ritem_long_ne a cap zs hlen hcap hcm hb w n₀ hn₀ hr q qs hs (by omega) (by omega) p ps hs2 hl hc
          · rw [if_neg hl] at h; cases h

/-- The document's item and the program's: the same, but that the document sees at once that an Id is too great. -/
theorem item_part (zs : List Int) : (∃ x k, partS zs = some (x, k) ∧ itemS zs = some (x, zs.drop k)) ∨ (itemS zs = none ∧ ∀ x k, partS zs = some (x, k) → shapeB x = false) := by
  unfold itemS partS
  rcases hs : scan 0 0 zs with _ | ⟨q, qs⟩
  · exact .inr ⟨rfl, fun x k h => by cases h⟩
  · simp only
    by_cases hbig : 4003 < q.n
    · refine .inr ⟨by rw [if_pos hbig], fun x k h => ?_⟩
      have bad : ∀ y : It, 0 ≤ y.id → (y.id = (q.n / 4 : Nat)) → shapeB y = false := fun y h0 h1 => by
        rcases Bool.eq_false_or_eq_true (shapeB y) with h2 | h2
        · rcases shape_kinds h2 with ⟨_, _, h3, _⟩ | ⟨_, _, h3, _⟩ | ⟨_, _, h3, _⟩ | ⟨_, h3, _⟩ <;> omega
        · exact h2
      by_cases hm : q.n % 4 = 2 ∨ q.n % 4 = 3
      · rw [if_pos hm] at h
        injection h with h
        injection h with h1 h2
        subst h1
        exact bad _ (by simp only; omega) rfl
      · rw [if_neg hm] at h
        rcases hs2 : scan 0 0 (zs.drop q.k) with _ | ⟨p, ps⟩
        · rw [hs2] at h; cases h
        · rw [hs2] at h
          simp only at h
          by_cases h0 : q.n % 4 = 0
          · rw [if_pos h0] at h
            injection h with h
            injection h with h1 h2
            subst h1
            exact bad _ (by simp only; omega) rfl
          · rw [if_neg h0] at h
            by_cases hl : zs.length - q.k - p.k < p.n
            · rw [if_pos hl] at h; cases h
            · rw [if_neg hl] at h
              injection h with h
              injection h with h1 h2
              subst h1
              exact bad _ (by simp only; omega) rfl
    · rw [if_neg hbig]
      by_cases hm : q.n % 4 = 2 ∨ q.n % 4 = 3
      · rw [if_pos hm, if_pos hm]
        exact .inl ⟨_, _, rfl, rfl⟩
      · rw [if_neg hm, if_neg hm]
        rcases hs2 : scan 0 0 (zs.drop q.k) with _ | ⟨p, ps⟩
        · exact .inr ⟨rfl, fun x k h => by cases h⟩
        · simp only
          by_cases h0 : q.n % 4 = 0
          · rw [if_pos h0, if_pos h0]
            exact .inl ⟨_, _, rfl, by rw [List.drop_drop]⟩
          · rw [if_neg h0, if_neg h0, List.length_drop, List.length_drop]
            by_cases hl : zs.length - q.k - p.k < p.n
            · rw [if_pos hl, if_pos hl]
              exact .inr ⟨rfl, fun x k h => by cases h⟩
            · rw [if_neg hl, if_neg hl]
              exact .inl ⟨_, _, rfl, by rw [List.drop_drop, List.drop_drop]⟩
end Go.Proofs.Yteelknmafnoccaa
