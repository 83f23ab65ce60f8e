/-
  THE PROGRAM's copyOf and take: the item that some bytes begin with, and how many bytes it has.
-/
import Derived.Test.YtgngcpbkopjjlaaDoorItem
import Derived.Test.YtgngcpbkopjjlaaDoorFrame
namespace Go.Proofs.YtgngcpbkopjjlaaDoor
open Go.RowKit
set_option linter.unusedVariables false

/-- The same bytes in memory of one's own. -/
def Copied (zs : List Int) (w : World) (e : Ending) (w' : World) : Prop :=
  ∃ A c, e = .returned (.slice A zs.length c) ∧ w'.ownsRow w.heap.size 5 1 (.slice A zs.length c) zs.length (zs.map (Value.int .u8)) ∧ Below w.heap.size w w'

set_option maxHeartbeats 800000 in
set_option maxRecDepth 100000 in
theorem copy_any {a : Option Addr} {n cap : Nat} {zs : List Int} (hn : n = zs.length) (hlen : zs.length ≤ 1000000) {w : World} {n₀ : Nat} (hr : Rd .u8 n₀ w a zs) :
    Calls Tryd.prog 74 #[.slice a n cap] w (Copied zs w) := by
  subst hn
  obtain ⟨i0, hi, hz0, hz1, hz2⟩ := info_parts Tryd.info5
  have HR := Lib.hid hr
  clear hr
  cases a with
  | none =>
    have hz : zs.length = 0 := by
      rcases Nat.eq_zero_or_pos zs.length with h | h
      · exact h
      · obtain ⟨_, _, h', _⟩ := HR.out h; cases h'
    obtain rfl := List.eq_nil_of_length_eq_zero hz
    clear hz
    go_enter Tryd.func74, Tryd.ntmps74
    go_wp2_with (at_builtin; refine wpList_append_nilc rfl _ _ 22 rfl w.heap.size 5 i0 1 Tryd.underlying22 hi _ _ _ rfl (World.ownsRow_nil _ _ _ _) 0 cap rfl rfl ?_)
    go_ret
    exact ⟨none, 0, rfl, World.ownsRow_nil _ _ _ _, Below.refl _ _⟩
  | some ad =>
    go_enter Tryd.func74, Tryd.ntmps74
    go_wp2_with (at_builtin; refine wpList_append_own _ rfl _ _ 22 rfl w.heap.size 5 i0 (.int .u8 0) 1 1 Tryd.underlying22 hi hz0 hz1 hz2 rfl (by decide) (.slice none 0 0) 0 _ rfl (World.ownsRow_nil _ _ _ _) ad zs.length cap (zs.map (Value.int .u8)) rfl (by simp) HR.out.news (one_u8 _) (by unfold maxLen; omega) (by omega) (Nat.le_refl _) ?_; intro v1 X1 ho hg hn; rw [Nat.zero_add, List.nil_append] at ho; obtain ⟨V1, m1, rfl, _⟩ := own_form ho; have O1 := Lib.hid ho; have H1 := Lib.hid ((Below.refl w.heap.size w).grown hg (Nat.le_refl _) (fun j hj => by simp [Value.ownBlock] at hj)); clear ho hg hn)
    go_ret
    exact ⟨V1, m1, rfl, O1.out, H1.out⟩

/-- No item: what take returns then. -/
def NoPart (w : World) (e : Ending) (w' : World) : Prop :=
  e = .returned (.tuple #[.agg #[.int .i64 0, .int .i64 0, .int .i64 0, .slice none 0 0], .int .i64 0, .int .i64 2]) ∧ Below w.heap.size w w'
/-- An item, its bytes in memory of their own. -/
def APart (x : It) (k : Nat) (w : World) (e : Ending) (w' : World) : Prop :=
  ∃ A c, e = .returned (.tuple #[.agg #[.int .i64 x.kind, .int .i64 x.id, .int .i64 x.n, .slice A x.bs.length c], .int .i64 k, .int .i64 0]) ∧
    w'.ownsRow w.heap.size 5 1 (.slice A x.bs.length c) x.bs.length (x.bs.map (Value.int .u8)) ∧ Below w.heap.size w w'

set_option maxHeartbeats 4000000 in
set_option maxRecDepth 100000 in
theorem part_none1 (a : Option Addr) (cap : Nat) (zs : List Int) (hlen : zs.length ≤ 100000) (hb : ∀ x ∈ zs, 0 ≤ x ∧ x ≤ 255) (w : World) (hr : Rd .u8 w.heap.size w a zs) (hs : scan 0 0 zs = []) :
    Calls Tryd.prog 42 #[.slice a zs.length cap] w (NoPart w) := by
  have hres : takeS zs = (0, 0, 2) := by unfold takeS; rw [hs]
  have htk := take_len cap zs rfl (by omega) hb (w := w.alloc (.cells #[.int .i64 0, .int .i64 0, .int .i64 0, .slice none 0 0] 64)) ((hr.below ((Below.refl _ w).alloc (Nat.le_refl _) _)).mono (by simp)) hres
  clear hres hs
  go_enter Tryd.func42, Tryd.ntmps42
  go_wp2_with (go_at_call 72; refine htk.mono ?_; rintro e w1 ⟨rfl, hb1⟩; have BX := Lib.hid (Box.below (heap_alloc_new w (.cells #[.int .i64 0, .int .i64 0, .int .i64 0, .slice none 0 0] 64)) hb1 (by simp)); have H1 := Lib.hid (((Below.refl w.heap.size w).alloc (Nat.le_refl _) (.cells #[.int .i64 0, .int .i64 0, .int .i64 0, .slice none 0 0] 64)).trans (hb1.mono (by simp))); clear hb1; have c0 := BX.out.cell 0; have c1 := BX.out.cell 1; have c2 := BX.out.cell 2; have c3 := BX.out.cell 3; have fz : ∀ i, w1.frozen? ⟨w.heap.size, i, none⟩ = false := fun i => by have h := BX.out; unfold Box at h; simp [World.frozen?, h])
  obtain ⟨B4, L4⟩ := BX.out.four (.int .i64 0) (.int .i64 0) (.int .i64 0) (.slice none 0 0)
  have e0 := B4.cell 0
  have e1 := B4.cell 1
  have e2 := B4.cell 2
  have e3 := B4.cell 3
  simp only [List.getElem?_toArray, List.getElem?_cons_zero, List.getElem?_cons_succ] at e0 e1 e2 e3
  refine bodyPost_ret (v := .tuple #[.agg #[.int .i64 0, .int .i64 0, .int .i64 0, .slice none 0 0], .int .i64 0, .int .i64 2]) (by simp [results, go_sem, e0, e1, e2, e3]) rfl ⟨rfl, H1.out.trans L4⟩

set_option maxHeartbeats 4000000 in
set_option maxRecDepth 100000 in
theorem part_group (a : Option Addr) (cap : Nat) (zs : List Int) (hlen : zs.length ≤ 100000) (hb : ∀ x ∈ zs, 0 ≤ x ∧ x ≤ 255) (w : World) (hr : Rd .u8 w.heap.size w a zs) (q : Num) (qs : List Num) (hs : scan 0 0 zs = q :: qs) (m : Nat) (hm : q.n % 4 = m) (hm2 : m = 2 ∨ m = 3) :
    Calls Tryd.prog 42 #[.slice a zs.length cap] w (APart ⟨(m : Int) + 1, (q.n / 4 : Nat), 0, []⟩ q.k w) := by
  have hres : takeS zs = ((q.n : Int), (q.k : Int), 0) := by unfold takeS; rw [hs]
  have htk := take_len cap zs rfl (by omega) hb (w := w.alloc (.cells #[.int .i64 0, .int .i64 0, .int .i64 0, .slice none 0 0] 64)) ((hr.below ((Below.refl _ w).alloc (Nat.le_refl _) _)).mono (by simp)) hres
  have hqn := q.hn
  have hmod : (q.n : Int) % 4 = (m : Int) := by omega
  clear hres hs hm hr
  rcases hm2 with rfl | rfl
  · go_enter Tryd.func42, Tryd.ntmps42
    go_wp2_with (go_at_call 72; refine htk.mono ?_; rintro e w1 ⟨rfl, hb1⟩; have BX := Lib.hid (Box.below (heap_alloc_new w (.cells #[.int .i64 0, .int .i64 0, .int .i64 0, .slice none 0 0] 64)) hb1 (by simp)); have H1 := Lib.hid (((Below.refl w.heap.size w).alloc (Nat.le_refl _) (.cells #[.int .i64 0, .int .i64 0, .int .i64 0, .slice none 0 0] 64)).trans (hb1.mono (by simp))); clear hb1; have hlt := BX.out.lt; have c0 : w1.cell? ⟨w.heap.size, 0, none⟩ = some (.int .i64 0) := BX.out.cell 0; have c1 : w1.cell? ⟨w.heap.size, 1, none⟩ = some (.int .i64 0) := BX.out.cell 1; have c2 : w1.cell? ⟨w.heap.size, 2, none⟩ = some (.int .i64 0) := BX.out.cell 2; have c3 : w1.cell? ⟨w.heap.size, 3, none⟩ = some (.slice none 0 0) := BX.out.cell 3; have f0 := BX.out.frozen 0; have f1 := BX.out.frozen 1; have f2 := BX.out.frozen 2; have f3 := BX.out.frozen 3)
    obtain ⟨B0, L4⟩ := BX.out.four (.int .i64 3) (.int .i64 ((q.n : Int) / 4)) (.int .i64 0) (.slice none 0 0)
    have B4 := B0.alloc (.cells #[.int .i64 3, .int .i64 ((q.n : Int) / 4), .int .i64 0, .slice none 0 0] 64)
    have e0 := B4.cell 0
    have e1 := B4.cell 1
    have e2 := B4.cell 2
    have e3 := B4.cell 3
    simp only [List.getElem?_toArray, List.getElem?_cons_zero, List.getElem?_cons_succ] at e0 e1 e2 e3
    refine bodyPost_ret (v := .tuple #[.agg #[.int .i64 3, .int .i64 ((q.n : Int) / 4), .int .i64 0, .slice none 0 0], .int .i64 q.k, .int .i64 0]) (by simp [results, go_sem, e0, e1, e2, e3]) rfl ?_
    exact ⟨none, 0, rfl, World.ownsRow_nil _ _ _ _, (H1.out.trans L4).alloc (H1.out.trans L4).size _⟩
  · go_enter Tryd.func42, Tryd.ntmps42
    go_wp2_with (go_at_call 72; refine htk.mono ?_; rintro e w1 ⟨rfl, hb1⟩; have BX := Lib.hid (Box.below (heap_alloc_new w (.cells #[.int .i64 0, .int .i64 0, .int .i64 0, .slice none 0 0] 64)) hb1 (by simp)); have H1 := Lib.hid (((Below.refl w.heap.size w).alloc (Nat.le_refl _) (.cells #[.int .i64 0, .int .i64 0, .int .i64 0, .slice none 0 0] 64)).trans (hb1.mono (by simp))); clear hb1; have hlt := BX.out.lt; have c0 : w1.cell? ⟨w.heap.size, 0, none⟩ = some (.int .i64 0) := BX.out.cell 0; have c1 : w1.cell? ⟨w.heap.size, 1, none⟩ = some (.int .i64 0) := BX.out.cell 1; have c2 : w1.cell? ⟨w.heap.size, 2, none⟩ = some (.int .i64 0) := BX.out.cell 2; have c3 : w1.cell? ⟨w.heap.size, 3, none⟩ = some (.slice none 0 0) := BX.out.cell 3; have f0 := BX.out.frozen 0; have f1 := BX.out.frozen 1; have f2 := BX.out.frozen 2; have f3 := BX.out.frozen 3)
    obtain ⟨B0, L4⟩ := BX.out.four (.int .i64 4) (.int .i64 ((q.n : Int) / 4)) (.int .i64 0) (.slice none 0 0)
    have B4 := B0.alloc (.cells #[.int .i64 4, .int .i64 ((q.n : Int) / 4), .int .i64 0, .slice none 0 0] 64)
    have e0 := B4.cell 0
    have e1 := B4.cell 1
    have e2 := B4.cell 2
    have e3 := B4.cell 3
    simp only [List.getElem?_toArray, List.getElem?_cons_zero, List.getElem?_cons_succ] at e0 e1 e2 e3
    refine bodyPost_ret (v := .tuple #[.agg #[.int .i64 4, .int .i64 ((q.n : Int) / 4), .int .i64 0, .slice none 0 0], .int .i64 q.k, .int .i64 0]) (by simp [results, go_sem, e0, e1, e2, e3]) rfl ?_
    exact ⟨none, 0, rfl, World.ownsRow_nil _ _ _ _, (H1.out.trans L4).alloc (H1.out.trans L4).size _⟩

theorem own_far {w : World} {base : Nat} {e : TypeId} {size n : Nat} {v : Value} {xs : List Value} (h : w.ownsRow base e size v n xs) {b i : Nat} (hb : b < base) (u : Value) : (w.setCell ⟨b, i, none⟩ u).ownsRow base e size v n xs :=
  ⟨h.1, h.2.imp id fun ⟨g, cap, cur, hv, hg, hh, rest⟩ => ⟨g, cap, cur, hv, hg, (Below.heap_setCell w ⟨b, i, none⟩ u g (by show g ≠ b; omega)).trans hh, rest⟩⟩
theorem Box.far {W : World} {B B' : Nat} {cs : Array Value} (h : Box W B cs) (hne : B ≠ B') (i : Nat) (u : Value) : Box (W.setCell ⟨B', i, none⟩ u) B cs := (Below.heap_setCell W ⟨B', i, none⟩ u B hne).trans h

set_option maxHeartbeats 8000000 in
set_option maxRecDepth 100000 in
theorem part_int (a : Option Addr) (cap : Nat) (zs : List Int) (hlen : zs.length ≤ 100000) (hcap : zs.length ≤ cap) (hcm : cap ≤ 9223372036854775807) (hb : ∀ x ∈ zs, 0 ≤ x ∧ x ≤ 255) (w : World) (hr : Rd .u8 w.heap.size w a zs) (q : Num) (qs : List Num) (hs : scan 0 0 zs = q :: qs) (hm : q.n % 4 = 0) (p : Num) (ps : List Num) (hs2 : scan 0 0 (zs.drop q.k) = p :: ps) :
    Calls Tryd.prog 42 #[.slice a zs.length cap] w (APart ⟨1, (q.n / 4 : Nat), zagI p.n, []⟩ (q.k + p.k) w) := by
  have hres : takeS zs = ((q.n : Int), (q.k : Int), 0) := by unfold takeS; rw [hs]
  have hres2 : takeS (zs.drop q.k) = ((p.n : Int), (p.k : Int), 0) := by unfold takeS; rw [hs2]
  have htk := take_len cap zs rfl (by omega) hb (w := w.alloc (.cells #[.int .i64 0, .int .i64 0, .int .i64 0, .slice none 0 0] 64)) ((hr.below ((Below.refl _ w).alloc (Nat.le_refl _) _)).mono (by simp)) hres
  obtain ⟨hq0, hql, _, _⟩ := scan_first0 hb hs
  have hb2 : ∀ x ∈ zs.drop q.k, 0 ≤ x ∧ x ≤ 255 := fun x hx => hb x (List.mem_of_mem_drop hx)
  obtain ⟨hp0, hpl, _, _⟩ := scan_first0 hb2 hs2
  rw [List.length_drop] at hpl
  have hpn := p.hn
  have hne : ¬ cap = q.k := by omega
  obtain ⟨b, off, rfl, hbb, _⟩ := hr (by omega)
  have hqn := q.hn
  have hmod : (q.n : Int) % 4 = 0 := by omega
  have HRr := Lib.hid hr
  have hzag := zag_any p.n hpn
  have htk2 : ∀ W, Below w.heap.size w W → Calls Tryd.prog 72 #[.slice (some ⟨b, off + q.k, none⟩) (zs.length - q.k) (cap - q.k)] W fun e w' => e = .returned (.tuple #[.int .u64 p.n, .int .i64 p.k, .int .i64 0]) ∧ Below W.heap.size W w' := fun W hW =>
    take_len (cap - q.k) (zs.drop q.k) (List.length_drop ..) (by omega) hb2 (((HRr.out.drop q.k).below hW).mono hW.size) hres2
  have HT2 := Lib.hid htk2
  have T1 : True := trivial
  have T2 : True := trivial
  clear hres hres2 hs hs2 hm hr htk2
  go_enter Tryd.func42, Tryd.ntmps42
  go_wp2_with (first
    | (go_at_call 72; have _t1 := T1; (with_reducible refine htk.mono ?_); rintro e w1 ⟨rfl, hb1⟩; have BX := Lib.hid (Box.below (heap_alloc_new w (.cells #[.int .i64 0, .int .i64 0, .int .i64 0, .slice none 0 0] 64)) hb1 (by simp)); have H1 := Lib.hid (((Below.refl w.heap.size w).alloc (Nat.le_refl _) (.cells #[.int .i64 0, .int .i64 0, .int .i64 0, .slice none 0 0] 64)).trans (hb1.mono (by simp))); have hlt := BX.out.lt; clear hb1 T1)
    | (go_at_call 72; have _t2 := T2; (with_reducible refine (HT2.out _ (H1.out.alloc H1.out.size _)).mono ?_); rintro e w3 ⟨rfl, hb3⟩; have B2 := Lib.hid (Box.below (heap_alloc_new w1 (.cells #[.int .i64 1, .int .i64 ((q.n : Int) / 4), .int .i64 0, .slice none 0 0] 64)) hb3 (by simp)); have B0 := Lib.hid (Box.below (BX.out.alloc (.cells #[.int .i64 1, .int .i64 ((q.n : Int) / 4), .int .i64 0, .slice none 0 0] 64)) hb3 (by simp; omega)); have H3 := Lib.hid ((H1.out.alloc H1.out.size (.cells #[.int .i64 1, .int .i64 ((q.n : Int) / 4), .int .i64 0, .slice none 0 0] 64)).trans (hb3.mono (by have := H1.out.size; simp; omega))); have S3 := Lib.hid (Nat.lt_of_lt_of_le (show w1.heap.size < (w1.alloc (.cells #[.int .i64 1, .int .i64 ((q.n : Int) / 4), .int .i64 0, .slice none 0 0] 64)).heap.size by simp) hb3.size); have x0 : w3.cell? ⟨w1.heap.size, 0, none⟩ = some (.int .i64 1) := B2.out.cell 0; have x1 : w3.cell? ⟨w1.heap.size, 1, none⟩ = some (.int .i64 ((q.n : Int) / 4)) := B2.out.cell 1; have x2 : w3.cell? ⟨w1.heap.size, 2, none⟩ = some (.int .i64 0) := B2.out.cell 2; have x3 : w3.cell? ⟨w1.heap.size, 3, none⟩ = some (.slice none 0 0) := B2.out.cell 3; have y0 : w3.cell? ⟨w.heap.size, 0, none⟩ = some (.int .i64 0) := B0.out.cell 0; have y1 : w3.cell? ⟨w.heap.size, 1, none⟩ = some (.int .i64 0) := B0.out.cell 1; have y2 : w3.cell? ⟨w.heap.size, 2, none⟩ = some (.int .i64 0) := B0.out.cell 2; have y3 : w3.cell? ⟨w.heap.size, 3, none⟩ = some (.slice none 0 0) := B0.out.cell 3; have f2 := B2.out.frozen 2; have z0 := B0.out.frozen 0; have z1 := B0.out.frozen 1; have z2 := B0.out.frozen 2; have z3 := B0.out.frozen 3; clear hb3 T2)
    | (go_at_call 73; refine (hzag _).mono ?_; rintro e w' ⟨rfl, rfl⟩))
  obtain ⟨B4, L4⟩ := (B0.out.far (B' := w1.heap.size) (by omega) 2 (.int .i64 (zagI p.n))).four (.int .i64 1) (.int .i64 ((q.n : Int) / 4)) (.int .i64 (zagI p.n)) (.slice none 0 0)
  have e0 := B4.cell 0
  have e1 := B4.cell 1
  have e2 := B4.cell 2
  have e3 := B4.cell 3
  simp only [List.getElem?_toArray, List.getElem?_cons_zero, List.getElem?_cons_succ] at e0 e1 e2 e3
  refine bodyPost_ret (v := .tuple #[.agg #[.int .i64 1, .int .i64 ((q.n : Int) / 4), .int .i64 (zagI p.n), .slice none 0 0], .int .i64 ((q.k : Int) + p.k), .int .i64 0]) (by simp [results, go_sem, e0, e1, e2, e3]) rfl ?_
  exact ⟨none, 0, by rw [Int.natCast_add]; rfl, World.ownsRow_nil _ _ _ _, (H3.out.setCell (by have := H1.out.size; simp; omega) _).trans L4⟩

set_option maxHeartbeats 8000000 in
set_option maxRecDepth 100000 in
theorem part_none2_0eq (a : Option Addr) (cap : Nat) (zs : List Int) (hlen : zs.length ≤ 100000) (hcap : zs.length ≤ cap) (hcm : cap ≤ 9223372036854775807) (hb : ∀ x ∈ zs, 0 ≤ x ∧ x ≤ 255) (w : World) (hr : Rd .u8 w.heap.size w a zs) (q : Num) (qs : List Num) (hs : scan 0 0 zs = q :: qs) (hm : q.n % 4 = 0) (hs2 : scan 0 0 (zs.drop q.k) = []) (hc : cap = q.k) :
    Calls Tryd.prog 42 #[.slice a zs.length cap] w (NoPart w) := by
  have hres : takeS zs = ((q.n : Int), (q.k : Int), 0) := by unfold takeS; rw [hs]
  have hres2 : takeS (zs.drop q.k) = (0, 0, 2) := by unfold takeS; rw [hs2]
  have htk := take_len cap zs rfl (by omega) hb (w := w.alloc (.cells #[.int .i64 0, .int .i64 0, .int .i64 0, .slice none 0 0] 64)) ((hr.below ((Below.refl _ w).alloc (Nat.le_refl _) _)).mono (by simp)) hres
  obtain ⟨hq0, hql, _, _⟩ := scan_first0 hb hs
  have hb2 : ∀ x ∈ zs.drop q.k, 0 ≤ x ∧ x ≤ 255 := fun x hx => hb x (List.mem_of_mem_drop hx)
  obtain rfl : cap = q.k := hc
  obtain ⟨b, off, rfl, hbb, _⟩ := hr (by omega)
  have hqn := q.hn
  have hmod : (q.n : Int) % 4 = 0 := by omega
  have HRr := Lib.hid hr
  have htk2 : ∀ W, Below w.heap.size w W → Calls Tryd.prog 72 #[.slice (some ⟨b, off, none⟩) 0 0] W fun e w' => e = .returned (.tuple #[.int .u64 0, .int .i64 0, .int .i64 2]) ∧ Below W.heap.size W w' := fun W hW =>
    take_len 0 (zs.drop q.k) (by rw [List.length_drop]; omega) (by omega) hb2 (fun hp => by rw [List.length_drop] at hp; omega) hres2
  have HT2 := Lib.hid htk2
  have T1 : True := trivial
  have T2 : True := trivial
  clear hres hres2 hs hs2 hm hr htk2
  go_enter Tryd.func42, Tryd.ntmps42
  go_wp2_with (first
    | (go_at_call 72; have _t1 := T1; (with_reducible refine htk.mono ?_); rintro e w1 ⟨rfl, hb1⟩; have BX := Lib.hid (Box.below (heap_alloc_new w (.cells #[.int .i64 0, .int .i64 0, .int .i64 0, .slice none 0 0] 64)) hb1 (by simp)); have H1 := Lib.hid (((Below.refl w.heap.size w).alloc (Nat.le_refl _) (.cells #[.int .i64 0, .int .i64 0, .int .i64 0, .slice none 0 0] 64)).trans (hb1.mono (by simp))); have hlt := BX.out.lt; clear hb1 T1)
    | (go_at_call 72; have _t2 := T2; (with_reducible refine (HT2.out _ (H1.out.alloc H1.out.size _)).mono ?_); rintro e w3 ⟨rfl, hb3⟩; have B2 := Lib.hid (Box.below (heap_alloc_new w1 (.cells #[.int .i64 1, .int .i64 ((q.n : Int) / 4), .int .i64 0, .slice none 0 0] 64)) hb3 (by simp)); have B0 := Lib.hid (Box.below (BX.out.alloc (.cells #[.int .i64 1, .int .i64 ((q.n : Int) / 4), .int .i64 0, .slice none 0 0] 64)) hb3 (by simp; omega)); have H3 := Lib.hid ((H1.out.alloc H1.out.size (.cells #[.int .i64 1, .int .i64 ((q.n : Int) / 4), .int .i64 0, .slice none 0 0] 64)).trans (hb3.mono (by have := H1.out.size; simp; omega))); have S3 := Lib.hid (Nat.lt_of_lt_of_le (show w1.heap.size < (w1.alloc (.cells #[.int .i64 1, .int .i64 ((q.n : Int) / 4), .int .i64 0, .slice none 0 0] 64)).heap.size by simp) hb3.size); have x0 : w3.cell? ⟨w1.heap.size, 0, none⟩ = some (.int .i64 1) := B2.out.cell 0; have x1 : w3.cell? ⟨w1.heap.size, 1, none⟩ = some (.int .i64 ((q.n : Int) / 4)) := B2.out.cell 1; have x2 : w3.cell? ⟨w1.heap.size, 2, none⟩ = some (.int .i64 0) := B2.out.cell 2; have x3 : w3.cell? ⟨w1.heap.size, 3, none⟩ = some (.slice none 0 0) := B2.out.cell 3; have y0 : w3.cell? ⟨w.heap.size, 0, none⟩ = some (.int .i64 0) := B0.out.cell 0; have y1 : w3.cell? ⟨w.heap.size, 1, none⟩ = some (.int .i64 0) := B0.out.cell 1; have y2 : w3.cell? ⟨w.heap.size, 2, none⟩ = some (.int .i64 0) := B0.out.cell 2; have y3 : w3.cell? ⟨w.heap.size, 3, none⟩ = some (.slice none 0 0) := B0.out.cell 3; have f2 := B2.out.frozen 2; have z0 := B0.out.frozen 0; have z1 := B0.out.frozen 1; have z2 := B0.out.frozen 2; have z3 := B0.out.frozen 3; clear hb3 T2))
  obtain ⟨B4, L4⟩ := B0.out.four (.int .i64 0) (.int .i64 0) (.int .i64 0) (.slice none 0 0)
  have e0 := B4.cell 0
  have e1 := B4.cell 1
  have e2 := B4.cell 2
  have e3 := B4.cell 3
  simp only [List.getElem?_toArray, List.getElem?_cons_zero, List.getElem?_cons_succ] at e0 e1 e2 e3
  refine bodyPost_ret (v := .tuple #[.agg #[.int .i64 0, .int .i64 0, .int .i64 0, .slice none 0 0], .int .i64 0, .int .i64 2]) (by simp [results, go_sem, e0, e1, e2, e3]) rfl ?_
  exact ⟨rfl, H3.out.trans L4⟩

set_option maxHeartbeats 8000000 in
set_option maxRecDepth 100000 in
theorem part_none2_0ne (a : Option Addr) (cap : Nat) (zs : List Int) (hlen : zs.length ≤ 100000) (hcap : zs.length ≤ cap) (hcm : cap ≤ 9223372036854775807) (hb : ∀ x ∈ zs, 0 ≤ x ∧ x ≤ 255) (w : World) (hr : Rd .u8 w.heap.size w a zs) (q : Num) (qs : List Num) (hs : scan 0 0 zs = q :: qs) (hm : q.n % 4 = 0) (hs2 : scan 0 0 (zs.drop q.k) = []) (hc : ¬ cap = q.k) :
    Calls Tryd.prog 42 #[.slice a zs.length cap] w (NoPart w) := by
  have hres : takeS zs = ((q.n : Int), (q.k : Int), 0) := by unfold takeS; rw [hs]
  have hres2 : takeS (zs.drop q.k) = (0, 0, 2) := by unfold takeS; rw [hs2]
  have htk := take_len cap zs rfl (by omega) hb (w := w.alloc (.cells #[.int .i64 0, .int .i64 0, .int .i64 0, .slice none 0 0] 64)) ((hr.below ((Below.refl _ w).alloc (Nat.le_refl _) _)).mono (by simp)) hres
  obtain ⟨hq0, hql, _, _⟩ := scan_first0 hb hs
  have hb2 : ∀ x ∈ zs.drop q.k, 0 ≤ x ∧ x ≤ 255 := fun x hx => hb x (List.mem_of_mem_drop hx)
  have hne : ¬ cap = q.k := hc
  obtain ⟨b, off, rfl, hbb, _⟩ := hr (by omega)
  have hqn := q.hn
  have hmod : (q.n : Int) % 4 = 0 := by omega
  have HRr := Lib.hid hr
  have htk2 : ∀ W, Below w.heap.size w W → Calls Tryd.prog 72 #[.slice (some ⟨b, off + q.k, none⟩) (zs.length - q.k) (cap - q.k)] W fun e w' => e = .returned (.tuple #[.int .u64 0, .int .i64 0, .int .i64 2]) ∧ Below W.heap.size W w' := fun W hW =>
    take_len (cap - q.k) (zs.drop q.k) (List.length_drop ..) (by omega) hb2 (((HRr.out.drop q.k).below hW).mono hW.size) hres2
  have HT2 := Lib.hid htk2
  have T1 : True := trivial
  have T2 : True := trivial
  clear hres hres2 hs hs2 hm hr htk2
  go_enter Tryd.func42, Tryd.ntmps42
  go_wp2_with (first
    | (go_at_call 72; have _t1 := T1; (with_reducible refine htk.mono ?_); rintro e w1 ⟨rfl, hb1⟩; have BX := Lib.hid (Box.below (heap_alloc_new w (.cells #[.int .i64 0, .int .i64 0, .int .i64 0, .slice none 0 0] 64)) hb1 (by simp)); have H1 := Lib.hid (((Below.refl w.heap.size w).alloc (Nat.le_refl _) (.cells #[.int .i64 0, .int .i64 0, .int .i64 0, .slice none 0 0] 64)).trans (hb1.mono (by simp))); have hlt := BX.out.lt; clear hb1 T1)
    | (go_at_call 72; have _t2 := T2; (with_reducible refine (HT2.out _ (H1.out.alloc H1.out.size _)).mono ?_); rintro e w3 ⟨rfl, hb3⟩; have B2 := Lib.hid (Box.below (heap_alloc_new w1 (.cells #[.int .i64 1, .int .i64 ((q.n : Int) / 4), .int .i64 0, .slice none 0 0] 64)) hb3 (by simp)); have B0 := Lib.hid (Box.below (BX.out.alloc (.cells #[.int .i64 1, .int .i64 ((q.n : Int) / 4), .int .i64 0, .slice none 0 0] 64)) hb3 (by simp; omega)); have H3 := Lib.hid ((H1.out.alloc H1.out.size (.cells #[.int .i64 1, .int .i64 ((q.n : Int) / 4), .int .i64 0, .slice none 0 0] 64)).trans (hb3.mono (by have := H1.out.size; simp; omega))); have S3 := Lib.hid (Nat.lt_of_lt_of_le (show w1.heap.size < (w1.alloc (.cells #[.int .i64 1, .int .i64 ((q.n : Int) / 4), .int .i64 0, .slice none 0 0] 64)).heap.size by simp) hb3.size); have x0 : w3.cell? ⟨w1.heap.size, 0, none⟩ = some (.int .i64 1) := B2.out.cell 0; have x1 : w3.cell? ⟨w1.heap.size, 1, none⟩ = some (.int .i64 ((q.n : Int) / 4)) := B2.out.cell 1; have x2 : w3.cell? ⟨w1.heap.size, 2, none⟩ = some (.int .i64 0) := B2.out.cell 2; have x3 : w3.cell? ⟨w1.heap.size, 3, none⟩ = some (.slice none 0 0) := B2.out.cell 3; have y0 : w3.cell? ⟨w.heap.size, 0, none⟩ = some (.int .i64 0) := B0.out.cell 0; have y1 : w3.cell? ⟨w.heap.size, 1, none⟩ = some (.int .i64 0) := B0.out.cell 1; have y2 : w3.cell? ⟨w.heap.size, 2, none⟩ = some (.int .i64 0) := B0.out.cell 2; have y3 : w3.cell? ⟨w.heap.size, 3, none⟩ = some (.slice none 0 0) := B0.out.cell 3; have f2 := B2.out.frozen 2; have z0 := B0.out.frozen 0; have z1 := B0.out.frozen 1; have z2 := B0.out.frozen 2; have z3 := B0.out.frozen 3; clear hb3 T2))
  obtain ⟨B4, L4⟩ := B0.out.four (.int .i64 0) (.int .i64 0) (.int .i64 0) (.slice none 0 0)
  have e0 := B4.cell 0
  have e1 := B4.cell 1
  have e2 := B4.cell 2
  have e3 := B4.cell 3
  simp only [List.getElem?_toArray, List.getElem?_cons_zero, List.getElem?_cons_succ] at e0 e1 e2 e3
  refine bodyPost_ret (v := .tuple #[.agg #[.int .i64 0, .int .i64 0, .int .i64 0, .slice none 0 0], .int .i64 0, .int .i64 2]) (by simp [results, go_sem, e0, e1, e2, e3]) rfl ?_
  exact ⟨rfl, H3.out.trans L4⟩

set_option maxHeartbeats 8000000 in
set_option maxRecDepth 100000 in
theorem part_none2_1eq (a : Option Addr) (cap : Nat) (zs : List Int) (hlen : zs.length ≤ 100000) (hcap : zs.length ≤ cap) (hcm : cap ≤ 9223372036854775807) (hb : ∀ x ∈ zs, 0 ≤ x ∧ x ≤ 255) (w : World) (hr : Rd .u8 w.heap.size w a zs) (q : Num) (qs : List Num) (hs : scan 0 0 zs = q :: qs) (hm : q.n % 4 = 1) (hs2 : scan 0 0 (zs.drop q.k) = []) (hc : cap = q.k) :
    Calls Tryd.prog 42 #[.slice a zs.length cap] w (NoPart w) := by
  have hres : takeS zs = ((q.n : Int), (q.k : Int), 0) := by unfold takeS; rw [hs]
  have hres2 : takeS (zs.drop q.k) = (0, 0, 2) := by unfold takeS; rw [hs2]
  have htk := take_len cap zs rfl (by omega) hb (w := w.alloc (.cells #[.int .i64 0, .int .i64 0, .int .i64 0, .slice none 0 0] 64)) ((hr.below ((Below.refl _ w).alloc (Nat.le_refl _) _)).mono (by simp)) hres
  obtain ⟨hq0, hql, _, _⟩ := scan_first0 hb hs
  have hb2 : ∀ x ∈ zs.drop q.k, 0 ≤ x ∧ x ≤ 255 := fun x hx => hb x (List.mem_of_mem_drop hx)
  obtain rfl : cap = q.k := hc
  obtain ⟨b, off, rfl, hbb, _⟩ := hr (by omega)
  have hqn := q.hn
  have hmod : (q.n : Int) % 4 = 1 := by omega
  have HRr := Lib.hid hr
  have htk2 : ∀ W, Below w.heap.size w W → Calls Tryd.prog 72 #[.slice (some ⟨b, off, none⟩) 0 0] W fun e w' => e = .returned (.tuple #[.int .u64 0, .int .i64 0, .int .i64 2]) ∧ Below W.heap.size W w' := fun W hW =>
    take_len 0 (zs.drop q.k) (by rw [List.length_drop]; omega) (by omega) hb2 (fun hp => by rw [List.length_drop] at hp; omega) hres2
  have HT2 := Lib.hid htk2
  have T1 : True := trivial
  have T2 : True := trivial
  clear hres hres2 hs hs2 hm hr htk2
  go_enter Tryd.func42, Tryd.ntmps42
  go_wp2_with (first
    | (go_at_call 72; have _t1 := T1; (with_reducible refine htk.mono ?_); rintro e w1 ⟨rfl, hb1⟩; have BX := Lib.hid (Box.below (heap_alloc_new w (.cells #[.int .i64 0, .int .i64 0, .int .i64 0, .slice none 0 0] 64)) hb1 (by simp)); have H1 := Lib.hid (((Below.refl w.heap.size w).alloc (Nat.le_refl _) (.cells #[.int .i64 0, .int .i64 0, .int .i64 0, .slice none 0 0] 64)).trans (hb1.mono (by simp))); have hlt := BX.out.lt; clear hb1 T1)
    | (go_at_call 72; have _t2 := T2; (with_reducible refine (HT2.out _ (H1.out.alloc H1.out.size _)).mono ?_); rintro e w3 ⟨rfl, hb3⟩; have B2 := Lib.hid (Box.below (heap_alloc_new w1 (.cells #[.int .i64 2, .int .i64 ((q.n : Int) / 4), .int .i64 0, .slice none 0 0] 64)) hb3 (by simp)); have B0 := Lib.hid (Box.below (BX.out.alloc (.cells #[.int .i64 2, .int .i64 ((q.n : Int) / 4), .int .i64 0, .slice none 0 0] 64)) hb3 (by simp; omega)); have H3 := Lib.hid ((H1.out.alloc H1.out.size (.cells #[.int .i64 2, .int .i64 ((q.n : Int) / 4), .int .i64 0, .slice none 0 0] 64)).trans (hb3.mono (by have := H1.out.size; simp; omega))); have S3 := Lib.hid (Nat.lt_of_lt_of_le (show w1.heap.size < (w1.alloc (.cells #[.int .i64 2, .int .i64 ((q.n : Int) / 4), .int .i64 0, .slice none 0 0] 64)).heap.size by simp) hb3.size); have x0 : w3.cell? ⟨w1.heap.size, 0, none⟩ = some (.int .i64 2) := B2.out.cell 0; have x1 : w3.cell? ⟨w1.heap.size, 1, none⟩ = some (.int .i64 ((q.n : Int) / 4)) := B2.out.cell 1; have x2 : w3.cell? ⟨w1.heap.size, 2, none⟩ = some (.int .i64 0) := B2.out.cell 2; have x3 : w3.cell? ⟨w1.heap.size, 3, none⟩ = some (.slice none 0 0) := B2.out.cell 3; have y0 : w3.cell? ⟨w.heap.size, 0, none⟩ = some (.int .i64 0) := B0.out.cell 0; have y1 : w3.cell? ⟨w.heap.size, 1, none⟩ = some (.int .i64 0) := B0.out.cell 1; have y2 : w3.cell? ⟨w.heap.size, 2, none⟩ = some (.int .i64 0) := B0.out.cell 2; have y3 : w3.cell? ⟨w.heap.size, 3, none⟩ = some (.slice none 0 0) := B0.out.cell 3; have f2 := B2.out.frozen 2; have z0 := B0.out.frozen 0; have z1 := B0.out.frozen 1; have z2 := B0.out.frozen 2; have z3 := B0.out.frozen 3; clear hb3 T2))
  obtain ⟨B4, L4⟩ := B0.out.four (.int .i64 0) (.int .i64 0) (.int .i64 0) (.slice none 0 0)
  have e0 := B4.cell 0
  have e1 := B4.cell 1
  have e2 := B4.cell 2
  have e3 := B4.cell 3
  simp only [List.getElem?_toArray, List.getElem?_cons_zero, List.getElem?_cons_succ] at e0 e1 e2 e3
  refine bodyPost_ret (v := .tuple #[.agg #[.int .i64 0, .int .i64 0, .int .i64 0, .slice none 0 0], .int .i64 0, .int .i64 2]) (by simp [results, go_sem, e0, e1, e2, e3]) rfl ?_
  exact ⟨rfl, H3.out.trans L4⟩

set_option maxHeartbeats 8000000 in
set_option maxRecDepth 100000 in
theorem part_none2_1ne (a : Option Addr) (cap : Nat) (zs : List Int) (hlen : zs.length ≤ 100000) (hcap : zs.length ≤ cap) (hcm : cap ≤ 9223372036854775807) (hb : ∀ x ∈ zs, 0 ≤ x ∧ x ≤ 255) (w : World) (hr : Rd .u8 w.heap.size w a zs) (q : Num) (qs : List Num) (hs : scan 0 0 zs = q :: qs) (hm : q.n % 4 = 1) (hs2 : scan 0 0 (zs.drop q.k) = []) (hc : ¬ cap = q.k) :
    Calls Tryd.prog 42 #[.slice a zs.length cap] w (NoPart w) := by
  have hres : takeS zs = ((q.n : Int), (q.k : Int), 0) := by unfold takeS; rw [hs]
  have hres2 : takeS (zs.drop q.k) = (0, 0, 2) := by unfold takeS; rw [hs2]
  have htk := take_len cap zs rfl (by omega) hb (w := w.alloc (.cells #[.int .i64 0, .int .i64 0, .int .i64 0, .slice none 0 0] 64)) ((hr.below ((Below.refl _ w).alloc (Nat.le_refl _) _)).mono (by simp)) hres
  obtain ⟨hq0, hql, _, _⟩ := scan_first0 hb hs
  have hb2 : ∀ x ∈ zs.drop q.k, 0 ≤ x ∧ x ≤ 255 := fun x hx => hb x (List.mem_of_mem_drop hx)
  have hne : ¬ cap = q.k := hc
  obtain ⟨b, off, rfl, hbb, _⟩ := hr (by omega)
  have hqn := q.hn
  have hmod : (q.n : Int) % 4 = 1 := by omega
  have HRr := Lib.hid hr
  have htk2 : ∀ W, Below w.heap.size w W → Calls Tryd.prog 72 #[.slice (some ⟨b, off + q.k, none⟩) (zs.length - q.k) (cap - q.k)] W fun e w' => e = .returned (.tuple #[.int .u64 0, .int .i64 0, .int .i64 2]) ∧ Below W.heap.size W w' := fun W hW =>
    take_len (cap - q.k) (zs.drop q.k) (List.length_drop ..) (by omega) hb2 (((HRr.out.drop q.k).below hW).mono hW.size) hres2
  have HT2 := Lib.hid htk2
  have T1 : True := trivial
  have T2 : True := trivial
  clear hres hres2 hs hs2 hm hr htk2
  go_enter Tryd.func42, Tryd.ntmps42
  go_wp2_with (first
    | (go_at_call 72; have _t1 := T1; (with_reducible refine htk.mono ?_); rintro e w1 ⟨rfl, hb1⟩; have BX := Lib.hid (Box.below (heap_alloc_new w (.cells #[.int .i64 0, .int .i64 0, .int .i64 0, .slice none 0 0] 64)) hb1 (by simp)); have H1 := Lib.hid (((Below.refl w.heap.size w).alloc (Nat.le_refl _) (.cells #[.int .i64 0, .int .i64 0, .int .i64 0, .slice none 0 0] 64)).trans (hb1.mono (by simp))); have hlt := BX.out.lt; clear hb1 T1)
    | (go_at_call 72; have _t2 := T2; (with_reducible refine (HT2.out _ (H1.out.alloc H1.out.size _)).mono ?_); rintro e w3 ⟨rfl, hb3⟩; have B2 := Lib.hid (Box.below (heap_alloc_new w1 (.cells #[.int .i64 2, .int .i64 ((q.n : Int) / 4), .int .i64 0, .slice none 0 0] 64)) hb3 (by simp)); have B0 := Lib.hid (Box.below (BX.out.alloc (.cells #[.int .i64 2, .int .i64 ((q.n : Int) / 4), .int .i64 0, .slice none 0 0] 64)) hb3 (by simp; omega)); have H3 := Lib.hid ((H1.out.alloc H1.out.size (.cells #[.int .i64 2, .int .i64 ((q.n : Int) / 4), .int .i64 0, .slice none 0 0] 64)).trans (hb3.mono (by have := H1.out.size; simp; omega))); have S3 := Lib.hid (Nat.lt_of_lt_of_le (show w1.heap.size < (w1.alloc (.cells #[.int .i64 2, .int .i64 ((q.n : Int) / 4), .int .i64 0, .slice none 0 0] 64)).heap.size by simp) hb3.size); have x0 : w3.cell? ⟨w1.heap.size, 0, none⟩ = some (.int .i64 2) := B2.out.cell 0; have x1 : w3.cell? ⟨w1.heap.size, 1, none⟩ = some (.int .i64 ((q.n : Int) / 4)) := B2.out.cell 1; have x2 : w3.cell? ⟨w1.heap.size, 2, none⟩ = some (.int .i64 0) := B2.out.cell 2; have x3 : w3.cell? ⟨w1.heap.size, 3, none⟩ = some (.slice none 0 0) := B2.out.cell 3; have y0 : w3.cell? ⟨w.heap.size, 0, none⟩ = some (.int .i64 0) := B0.out.cell 0; have y1 : w3.cell? ⟨w.heap.size, 1, none⟩ = some (.int .i64 0) := B0.out.cell 1; have y2 : w3.cell? ⟨w.heap.size, 2, none⟩ = some (.int .i64 0) := B0.out.cell 2; have y3 : w3.cell? ⟨w.heap.size, 3, none⟩ = some (.slice none 0 0) := B0.out.cell 3; have f2 := B2.out.frozen 2; have z0 := B0.out.frozen 0; have z1 := B0.out.frozen 1; have z2 := B0.out.frozen 2; have z3 := B0.out.frozen 3; clear hb3 T2))
  obtain ⟨B4, L4⟩ := B0.out.four (.int .i64 0) (.int .i64 0) (.int .i64 0) (.slice none 0 0)
  have e0 := B4.cell 0
  have e1 := B4.cell 1
  have e2 := B4.cell 2
  have e3 := B4.cell 3
  simp only [List.getElem?_toArray, List.getElem?_cons_zero, List.getElem?_cons_succ] at e0 e1 e2 e3
  refine bodyPost_ret (v := .tuple #[.agg #[.int .i64 0, .int .i64 0, .int .i64 0, .slice none 0 0], .int .i64 0, .int .i64 2]) (by simp [results, go_sem, e0, e1, e2, e3]) rfl ?_
  exact ⟨rfl, H3.out.trans L4⟩

set_option maxHeartbeats 8000000 in
set_option maxRecDepth 100000 in
theorem part_long (a : Option Addr) (cap : Nat) (zs : List Int) (hlen : zs.length ≤ 100000) (hcap : zs.length ≤ cap) (hcm : cap ≤ 9223372036854775807) (hb : ∀ x ∈ zs, 0 ≤ x ∧ x ≤ 255) (w : World) (hr : Rd .u8 w.heap.size w a zs) (q : Num) (qs : List Num) (hs : scan 0 0 zs = q :: qs) (hm : q.n % 4 = 1) (p : Num) (ps : List Num) (hs2 : scan 0 0 (zs.drop q.k) = p :: ps) (hlong : zs.length - q.k - p.k < p.n) :
    Calls Tryd.prog 42 #[.slice a zs.length cap] w (NoPart w) := by
  have hres : takeS zs = ((q.n : Int), (q.k : Int), 0) := by unfold takeS; rw [hs]
  have hres2 : takeS (zs.drop q.k) = ((p.n : Int), (p.k : Int), 0) := by unfold takeS; rw [hs2]
  have htk := take_len cap zs rfl (by omega) hb (w := w.alloc (.cells #[.int .i64 0, .int .i64 0, .int .i64 0, .slice none 0 0] 64)) ((hr.below ((Below.refl _ w).alloc (Nat.le_refl _) _)).mono (by simp)) hres
  obtain ⟨hq0, hql, _, _⟩ := scan_first0 hb hs
  have hb2 : ∀ x ∈ zs.drop q.k, 0 ≤ x ∧ x ≤ 255 := fun x hx => hb x (List.mem_of_mem_drop hx)
  obtain ⟨hp0, hpl, _, _⟩ := scan_first0 hb2 hs2
  rw [List.length_drop] at hpl
  have hpn := p.hn
  have hne : ¬ cap = q.k := by omega
  obtain ⟨b, off, rfl, hbb, _⟩ := hr (by omega)
  have hqn := q.hn
  have hmod : (q.n : Int) % 4 = 1 := by omega
  have HRr := Lib.hid hr
  have htk2 : ∀ W, Below w.heap.size w W → Calls Tryd.prog 72 #[.slice (some ⟨b, off + q.k, none⟩) (zs.length - q.k) (cap - q.k)] W fun e w' => e = .returned (.tuple #[.int .u64 p.n, .int .i64 p.k, .int .i64 0]) ∧ Below W.heap.size W w' := fun W hW =>
    take_len (cap - q.k) (zs.drop q.k) (List.length_drop ..) (by omega) hb2 (((HRr.out.drop q.k).below hW).mono hW.size) hres2
  have HT2 := Lib.hid htk2
  have T1 : True := trivial
  have T2 : True := trivial
  clear hres hres2 hs hs2 hm hr htk2
  go_enter Tryd.func42, Tryd.ntmps42
  go_wp2_with (first
    | (go_at_call 72; have _t1 := T1; (with_reducible refine htk.mono ?_); rintro e w1 ⟨rfl, hb1⟩; have BX := Lib.hid (Box.below (heap_alloc_new w (.cells #[.int .i64 0, .int .i64 0, .int .i64 0, .slice none 0 0] 64)) hb1 (by simp)); have H1 := Lib.hid (((Below.refl w.heap.size w).alloc (Nat.le_refl _) (.cells #[.int .i64 0, .int .i64 0, .int .i64 0, .slice none 0 0] 64)).trans (hb1.mono (by simp))); have hlt := BX.out.lt; clear hb1 T1)
    | (go_at_call 72; have _t2 := T2; (with_reducible refine (HT2.out _ (H1.out.alloc H1.out.size _)).mono ?_); rintro e w3 ⟨rfl, hb3⟩; have B2 := Lib.hid (Box.below (heap_alloc_new w1 (.cells #[.int .i64 2, .int .i64 ((q.n : Int) / 4), .int .i64 0, .slice none 0 0] 64)) hb3 (by simp)); have B0 := Lib.hid (Box.below (BX.out.alloc (.cells #[.int .i64 2, .int .i64 ((q.n : Int) / 4), .int .i64 0, .slice none 0 0] 64)) hb3 (by simp; omega)); have H3 := Lib.hid ((H1.out.alloc H1.out.size (.cells #[.int .i64 2, .int .i64 ((q.n : Int) / 4), .int .i64 0, .slice none 0 0] 64)).trans (hb3.mono (by have := H1.out.size; simp; omega))); have S3 := Lib.hid (Nat.lt_of_lt_of_le (show w1.heap.size < (w1.alloc (.cells #[.int .i64 2, .int .i64 ((q.n : Int) / 4), .int .i64 0, .slice none 0 0] 64)).heap.size by simp) hb3.size); have x0 : w3.cell? ⟨w1.heap.size, 0, none⟩ = some (.int .i64 2) := B2.out.cell 0; have x1 : w3.cell? ⟨w1.heap.size, 1, none⟩ = some (.int .i64 ((q.n : Int) / 4)) := B2.out.cell 1; have x2 : w3.cell? ⟨w1.heap.size, 2, none⟩ = some (.int .i64 0) := B2.out.cell 2; have x3 : w3.cell? ⟨w1.heap.size, 3, none⟩ = some (.slice none 0 0) := B2.out.cell 3; have y0 : w3.cell? ⟨w.heap.size, 0, none⟩ = some (.int .i64 0) := B0.out.cell 0; have y1 : w3.cell? ⟨w.heap.size, 1, none⟩ = some (.int .i64 0) := B0.out.cell 1; have y2 : w3.cell? ⟨w.heap.size, 2, none⟩ = some (.int .i64 0) := B0.out.cell 2; have y3 : w3.cell? ⟨w.heap.size, 3, none⟩ = some (.slice none 0 0) := B0.out.cell 3; have f2 := B2.out.frozen 2; have z0 := B0.out.frozen 0; have z1 := B0.out.frozen 1; have z2 := B0.out.frozen 2; have z3 := B0.out.frozen 3; clear hb3 T2))
  obtain ⟨B4, L4⟩ := B0.out.four (.int .i64 0) (.int .i64 0) (.int .i64 0) (.slice none 0 0)
  have e0 := B4.cell 0
  have e1 := B4.cell 1
  have e2 := B4.cell 2
  have e3 := B4.cell 3
  simp only [List.getElem?_toArray, List.getElem?_cons_zero, List.getElem?_cons_succ] at e0 e1 e2 e3
  refine bodyPost_ret (v := .tuple #[.agg #[.int .i64 0, .int .i64 0, .int .i64 0, .slice none 0 0], .int .i64 0, .int .i64 2]) (by simp [results, go_sem, e0, e1, e2, e3]) rfl ?_
  exact ⟨rfl, H3.out.trans L4⟩

set_option maxHeartbeats 8000000 in
set_option maxRecDepth 100000 in
theorem part_bytes_eq (a : Option Addr) (cap : Nat) (zs : List Int) (hlen : zs.length ≤ 100000) (hcap : zs.length ≤ cap) (hcm : cap ≤ 9223372036854775807) (hb : ∀ x ∈ zs, 0 ≤ x ∧ x ≤ 255) (w : World) (hr : Rd .u8 w.heap.size w a zs) (q : Num) (qs : List Num) (hs : scan 0 0 zs = q :: qs) (hm : q.n % 4 = 1) (p : Num) (ps : List Num) (hs2 : scan 0 0 (zs.drop q.k) = p :: ps) (hfit : p.n ≤ zs.length - q.k - p.k) (bs : List Int) (hbs : ((zs.drop q.k).drop p.k).take p.n = bs) (hc : cap = q.k + p.k) :
    Calls Tryd.prog 42 #[.slice a zs.length cap] w (APart ⟨2, (q.n / 4 : Nat), 0, bs⟩ (q.k + p.k + p.n) w) := by
  have hres : takeS zs = ((q.n : Int), (q.k : Int), 0) := by unfold takeS; rw [hs]
  have hres2 : takeS (zs.drop q.k) = ((p.n : Int), (p.k : Int), 0) := by unfold takeS; rw [hs2]
  have htk := take_len cap zs rfl (by omega) hb (w := w.alloc (.cells #[.int .i64 0, .int .i64 0, .int .i64 0, .slice none 0 0] 64)) ((hr.below ((Below.refl _ w).alloc (Nat.le_refl _) _)).mono (by simp)) hres
  obtain ⟨hq0, hql, _, _⟩ := scan_first0 hb hs
  have hb2 : ∀ x ∈ zs.drop q.k, 0 ≤ x ∧ x ≤ 255 := fun x hx => hb x (List.mem_of_mem_drop hx)
  obtain ⟨hp0, hpl, _, _⟩ := scan_first0 hb2 hs2
  rw [List.length_drop] at hpl
  have hpn := p.hn
  obtain rfl : cap = q.k + p.k := hc
  have hne : ¬ q.k + p.k = q.k := by omega
  obtain ⟨b, off, rfl, hbb, _⟩ := hr (by omega)
  have hqn := q.hn
  have hmod : (q.n : Int) % 4 = 1 := by omega
  have HRr := Lib.hid hr
  have hbl : bs.length = p.n := by rw [← hbs, List.length_take, List.length_drop, List.length_drop]; omega
  have RD0 : Rd .u8 w.heap.size w (some ⟨b, off, none⟩) bs := fun hp => by omega
  have RD := Lib.hid RD0
  have hcp : ∀ (W : World) (n c n₀ : Nat) (_ : n₀ ≤ W.heap.size) (_ : n = p.n) (_ : Rd .u8 n₀ W (some ⟨b, off, none⟩) bs), Calls Tryd.prog 74 #[.slice (some ⟨b, off, none⟩) n c] W (Copied bs W) := fun W n c n₀ h0 h1 h2 => copy_any (by omega) (by omega) h2
  have HCP := Lib.hid hcp
  have HBL := Lib.hid hbl
  clear RD0 hcp hbs hbl
  have htk2 : ∀ W, Below w.heap.size w W → Calls Tryd.prog 72 #[.slice (some ⟨b, off + q.k, none⟩) (zs.length - q.k) p.k] W fun e w' => e = .returned (.tuple #[.int .u64 p.n, .int .i64 p.k, .int .i64 0]) ∧ Below W.heap.size W w' := fun W hW =>
    take_len p.k (zs.drop q.k) (List.length_drop ..) (by omega) hb2 (((HRr.out.drop q.k).below hW).mono hW.size) hres2
  have HT2 := Lib.hid htk2
  have T1 : True := trivial
  have T2 : True := trivial
  clear hres hres2 hs hs2 hm hr htk2
  go_enter Tryd.func42, Tryd.ntmps42
  go_wp2_with (first
    | (go_at_call 72; have _t1 := T1; (with_reducible refine htk.mono ?_); rintro e w1 ⟨rfl, hb1⟩; have BX := Lib.hid (Box.below (heap_alloc_new w (.cells #[.int .i64 0, .int .i64 0, .int .i64 0, .slice none 0 0] 64)) hb1 (by simp)); have H1 := Lib.hid (((Below.refl w.heap.size w).alloc (Nat.le_refl _) (.cells #[.int .i64 0, .int .i64 0, .int .i64 0, .slice none 0 0] 64)).trans (hb1.mono (by simp))); have hlt := BX.out.lt; clear hb1 T1)
    | (go_at_call 72; have _t2 := T2; (with_reducible refine (HT2.out _ (H1.out.alloc H1.out.size _)).mono ?_); rintro e w3 ⟨rfl, hb3⟩; have B2 := Lib.hid (Box.below (heap_alloc_new w1 (.cells #[.int .i64 2, .int .i64 ((q.n : Int) / 4), .int .i64 0, .slice none 0 0] 64)) hb3 (by simp)); have B0 := Lib.hid (Box.below (BX.out.alloc (.cells #[.int .i64 2, .int .i64 ((q.n : Int) / 4), .int .i64 0, .slice none 0 0] 64)) hb3 (by simp; omega)); have H3 := Lib.hid ((H1.out.alloc H1.out.size (.cells #[.int .i64 2, .int .i64 ((q.n : Int) / 4), .int .i64 0, .slice none 0 0] 64)).trans (hb3.mono (by have := H1.out.size; simp; omega))); have S3 := Lib.hid (Nat.lt_of_lt_of_le (show w1.heap.size < (w1.alloc (.cells #[.int .i64 2, .int .i64 ((q.n : Int) / 4), .int .i64 0, .slice none 0 0] 64)).heap.size by simp) hb3.size); have x0 : w3.cell? ⟨w1.heap.size, 0, none⟩ = some (.int .i64 2) := B2.out.cell 0; have x1 : w3.cell? ⟨w1.heap.size, 1, none⟩ = some (.int .i64 ((q.n : Int) / 4)) := B2.out.cell 1; have x2 : w3.cell? ⟨w1.heap.size, 2, none⟩ = some (.int .i64 0) := B2.out.cell 2; have x3 : w3.cell? ⟨w1.heap.size, 3, none⟩ = some (.slice none 0 0) := B2.out.cell 3; have y0 : w3.cell? ⟨w.heap.size, 0, none⟩ = some (.int .i64 0) := B0.out.cell 0; have y1 : w3.cell? ⟨w.heap.size, 1, none⟩ = some (.int .i64 0) := B0.out.cell 1; have y2 : w3.cell? ⟨w.heap.size, 2, none⟩ = some (.int .i64 0) := B0.out.cell 2; have y3 : w3.cell? ⟨w.heap.size, 3, none⟩ = some (.slice none 0 0) := B0.out.cell 3; have f2 := B2.out.frozen 2; have z0 := B0.out.frozen 0; have z1 := B0.out.frozen 1; have z2 := B0.out.frozen 2; have z3 := B0.out.frozen 3; clear hb3 T2)
    | (go_at_call 74; (with_reducible refine (HCP.out _ _ _ _ (Below.size H3.out) (by omega) (RD.out.below H3.out)).mono ?_); rintro e w4 ⟨V, vc, rfl, ho, hb4⟩; have B4' := Lib.hid (Box.below B2.out hb4 S3.out); have B0' := Lib.hid (Box.below B0.out hb4 B0.out.lt); clear x0 x1 x2 x3 y0 y1 y2 y3 f2 z0 z1 z2 z3; have x0 : w4.cell? ⟨w1.heap.size, 0, none⟩ = some (.int .i64 2) := B4'.out.cell 0; have x1 : w4.cell? ⟨w1.heap.size, 1, none⟩ = some (.int .i64 ((q.n : Int) / 4)) := B4'.out.cell 1; have x2 : w4.cell? ⟨w1.heap.size, 2, none⟩ = some (.int .i64 0) := B4'.out.cell 2; have x3 : w4.cell? ⟨w1.heap.size, 3, none⟩ = some (.slice none 0 0) := B4'.out.cell 3; have y0 : w4.cell? ⟨w.heap.size, 0, none⟩ = some (.int .i64 0) := B0'.out.cell 0; have y1 : w4.cell? ⟨w.heap.size, 1, none⟩ = some (.int .i64 0) := B0'.out.cell 1; have y2 : w4.cell? ⟨w.heap.size, 2, none⟩ = some (.int .i64 0) := B0'.out.cell 2; have y3 : w4.cell? ⟨w.heap.size, 3, none⟩ = some (.slice none 0 0) := B0'.out.cell 3; have f3 := B4'.out.frozen 3; have z0 := B0'.out.frozen 0; have z1 := B0'.out.frozen 1; have z2 := B0'.out.frozen 2; have z3 := B0'.out.frozen 3; have O4 := Lib.hid ho; have H4 := Lib.hid (H3.out.trans (hb4.mono H3.out.size)); clear ho hb4))
  obtain ⟨B4, L4⟩ := (B0'.out.far (B' := w1.heap.size) (by omega) 3 (.slice V bs.length vc)).four (.int .i64 2) (.int .i64 ((q.n : Int) / 4)) (.int .i64 0) (.slice V bs.length vc)
  have e0 := B4.cell 0
  have e1 := B4.cell 1
  have e2 := B4.cell 2
  have e3 := B4.cell 3
  simp only [List.getElem?_toArray, List.getElem?_cons_zero, List.getElem?_cons_succ] at e0 e1 e2 e3
  refine bodyPost_ret (v := .tuple #[.agg #[.int .i64 2, .int .i64 ((q.n : Int) / 4), .int .i64 0, .slice V bs.length vc], .int .i64 ((q.k : Int) + p.k + p.n), .int .i64 0]) (by simp [results, go_sem, e0, e1, e2, e3]) rfl ?_
  have s3 : w1.heap.size < w3.heap.size := S3.out
  have s1 : w.heap.size ≤ w1.heap.size := H1.out.size
  exact ⟨V, vc, by rw [Int.natCast_add, Int.natCast_add]; rfl, own_mono (own_far (own_far (own_far (own_far (own_far O4.out s3 _) (by omega) _) (by omega) _) (by omega) _) (by omega) _) (by omega), (H4.out.setCell (by simp; omega) _).trans L4⟩

set_option maxHeartbeats 8000000 in
set_option maxRecDepth 100000 in
theorem part_bytes_ne (a : Option Addr) (cap : Nat) (zs : List Int) (hlen : zs.length ≤ 100000) (hcap : zs.length ≤ cap) (hcm : cap ≤ 9223372036854775807) (hb : ∀ x ∈ zs, 0 ≤ x ∧ x ≤ 255) (w : World) (hr : Rd .u8 w.heap.size w a zs) (q : Num) (qs : List Num) (hs : scan 0 0 zs = q :: qs) (hm : q.n % 4 = 1) (p : Num) (ps : List Num) (hs2 : scan 0 0 (zs.drop q.k) = p :: ps) (hfit : p.n ≤ zs.length - q.k - p.k) (bs : List Int) (hbs : ((zs.drop q.k).drop p.k).take p.n = bs) (hc : ¬ cap = q.k + p.k) :
    Calls Tryd.prog 42 #[.slice a zs.length cap] w (APart ⟨2, (q.n / 4 : Nat), 0, bs⟩ (q.k + p.k + p.n) w) := by
  have hres : takeS zs = ((q.n : Int), (q.k : Int), 0) := by unfold takeS; rw [hs]
  have hres2 : takeS (zs.drop q.k) = ((p.n : Int), (p.k : Int), 0) := by unfold takeS; rw [hs2]
  have htk := take_len cap zs rfl (by omega) hb (w := w.alloc (.cells #[.int .i64 0, .int .i64 0, .int .i64 0, .slice none 0 0] 64)) ((hr.below ((Below.refl _ w).alloc (Nat.le_refl _) _)).mono (by simp)) hres
  obtain ⟨hq0, hql, _, _⟩ := scan_first0 hb hs
  have hb2 : ∀ x ∈ zs.drop q.k, 0 ≤ x ∧ x ≤ 255 := fun x hx => hb x (List.mem_of_mem_drop hx)
  obtain ⟨hp0, hpl, _, _⟩ := scan_first0 hb2 hs2
  rw [List.length_drop] at hpl
  have hpn := p.hn
  have hne : ¬ cap = q.k := by omega
  obtain ⟨b, off, rfl, hbb, _⟩ := hr (by omega)
  have hqn := q.hn
  have hmod : (q.n : Int) % 4 = 1 := by omega
  have HRr := Lib.hid hr
  have hbl : bs.length = p.n := by rw [← hbs, List.length_take, List.length_drop, List.length_drop]; omega
  have RD0 : Rd .u8 w.heap.size w (some ⟨b, off + (q.k + p.k), none⟩) bs := by
    have h := ((HRr.out.drop q.k).drop p.k).take p.n
    rwa [hbs, Nat.add_assoc] at h
  have RD := Lib.hid RD0
  have hcp : ∀ (W : World) (n c n₀ : Nat) (_ : n₀ ≤ W.heap.size) (_ : n = p.n) (_ : Rd .u8 n₀ W (some ⟨b, off + (q.k + p.k), none⟩) bs), Calls Tryd.prog 74 #[.slice (some ⟨b, off + (q.k + p.k), none⟩) n c] W (Copied bs W) := fun W n c n₀ h0 h1 h2 => copy_any (by omega) (by omega) h2
  have HCP := Lib.hid hcp
  have HBL := Lib.hid hbl
  clear RD0 hcp hbs hbl
  have htk2 : ∀ W, Below w.heap.size w W → Calls Tryd.prog 72 #[.slice (some ⟨b, off + q.k, none⟩) (zs.length - q.k) (cap - q.k)] W fun e w' => e = .returned (.tuple #[.int .u64 p.n, .int .i64 p.k, .int .i64 0]) ∧ Below W.heap.size W w' := fun W hW =>
    take_len (cap - q.k) (zs.drop q.k) (List.length_drop ..) (by omega) hb2 (((HRr.out.drop q.k).below hW).mono hW.size) hres2
  have HT2 := Lib.hid htk2
  have T1 : True := trivial
  have T2 : True := trivial
  clear hres hres2 hs hs2 hm hr htk2
  go_enter Tryd.func42, Tryd.ntmps42
  go_wp2_with (first
    | (go_at_call 72; have _t1 := T1; (with_reducible refine htk.mono ?_); rintro e w1 ⟨rfl, hb1⟩; have BX := Lib.hid (Box.below (heap_alloc_new w (.cells #[.int .i64 0, .int .i64 0, .int .i64 0, .slice none 0 0] 64)) hb1 (by simp)); have H1 := Lib.hid (((Below.refl w.heap.size w).alloc (Nat.le_refl _) (.cells #[.int .i64 0, .int .i64 0, .int .i64 0, .slice none 0 0] 64)).trans (hb1.mono (by simp))); have hlt := BX.out.lt; clear hb1 T1)
    | (go_at_call 72; have _t2 := T2; (with_reducible refine (HT2.out _ (H1.out.alloc H1.out.size _)).mono ?_); rintro e w3 ⟨rfl, hb3⟩; have B2 := Lib.hid (Box.below (heap_alloc_new w1 (.cells #[.int .i64 2, .int .i64 ((q.n : Int) / 4), .int .i64 0, .slice none 0 0] 64)) hb3 (by simp)); have B0 := Lib.hid (Box.below (BX.out.alloc (.cells #[.int .i64 2, .int .i64 ((q.n : Int) / 4), .int .i64 0, .slice none 0 0] 64)) hb3 (by simp; omega)); have H3 := Lib.hid ((H1.out.alloc H1.out.size (.cells #[.int .i64 2, .int .i64 ((q.n : Int) / 4), .int .i64 0, .slice none 0 0] 64)).trans (hb3.mono (by have := H1.out.size; simp; omega))); have S3 := Lib.hid (Nat.lt_of_lt_of_le (show w1.heap.size < (w1.alloc (.cells #[.int .i64 2, .int .i64 ((q.n : Int) / 4), .int .i64 0, .slice none 0 0] 64)).heap.size by simp) hb3.size); have x0 : w3.cell? ⟨w1.heap.size, 0, none⟩ = some (.int .i64 2) := B2.out.cell 0; have x1 : w3.cell? ⟨w1.heap.size, 1, none⟩ = some (.int .i64 ((q.n : Int) / 4)) := B2.out.cell 1; have x2 : w3.cell? ⟨w1.heap.size, 2, none⟩ = some (.int .i64 0) := B2.out.cell 2; have x3 : w3.cell? ⟨w1.heap.size, 3, none⟩ = some (.slice none 0 0) := B2.out.cell 3; have y0 : w3.cell? ⟨w.heap.size, 0, none⟩ = some (.int .i64 0) := B0.out.cell 0; have y1 : w3.cell? ⟨w.heap.size, 1, none⟩ = some (.int .i64 0) := B0.out.cell 1; have y2 : w3.cell? ⟨w.heap.size, 2, none⟩ = some (.int .i64 0) := B0.out.cell 2; have y3 : w3.cell? ⟨w.heap.size, 3, none⟩ = some (.slice none 0 0) := B0.out.cell 3; have f2 := B2.out.frozen 2; have z0 := B0.out.frozen 0; have z1 := B0.out.frozen 1; have z2 := B0.out.frozen 2; have z3 := B0.out.frozen 3; clear hb3 T2)
    | (go_at_call 74; (with_reducible refine (HCP.out _ _ _ _ (Below.size H3.out) (by omega) (RD.out.below H3.out)).mono ?_); rintro e w4 ⟨V, vc, rfl, ho, hb4⟩; have B4' := Lib.hid (Box.below B2.out hb4 S3.out); have B0' := Lib.hid (Box.below B0.out hb4 B0.out.lt); clear x0 x1 x2 x3 y0 y1 y2 y3 f2 z0 z1 z2 z3; have x0 : w4.cell? ⟨w1.heap.size, 0, none⟩ = some (.int .i64 2) := B4'.out.cell 0; have x1 : w4.cell? ⟨w1.heap.size, 1, none⟩ = some (.int .i64 ((q.n : Int) / 4)) := B4'.out.cell 1; have x2 : w4.cell? ⟨w1.heap.size, 2, none⟩ = some (.int .i64 0) := B4'.out.cell 2; have x3 : w4.cell? ⟨w1.heap.size, 3, none⟩ = some (.slice none 0 0) := B4'.out.cell 3; have y0 : w4.cell? ⟨w.heap.size, 0, none⟩ = some (.int .i64 0) := B0'.out.cell 0; have y1 : w4.cell? ⟨w.heap.size, 1, none⟩ = some (.int .i64 0) := B0'.out.cell 1; have y2 : w4.cell? ⟨w.heap.size, 2, none⟩ = some (.int .i64 0) := B0'.out.cell 2; have y3 : w4.cell? ⟨w.heap.size, 3, none⟩ = some (.slice none 0 0) := B0'.out.cell 3; have f3 := B4'.out.frozen 3; have z0 := B0'.out.frozen 0; have z1 := B0'.out.frozen 1; have z2 := B0'.out.frozen 2; have z3 := B0'.out.frozen 3; have O4 := Lib.hid ho; have H4 := Lib.hid (H3.out.trans (hb4.mono H3.out.size)); clear ho hb4))
  obtain ⟨B4, L4⟩ := (B0'.out.far (B' := w1.heap.size) (by omega) 3 (.slice V bs.length vc)).four (.int .i64 2) (.int .i64 ((q.n : Int) / 4)) (.int .i64 0) (.slice V bs.length vc)
  have e0 := B4.cell 0
  have e1 := B4.cell 1
  have e2 := B4.cell 2
  have e3 := B4.cell 3
  simp only [List.getElem?_toArray, List.getElem?_cons_zero, List.getElem?_cons_succ] at e0 e1 e2 e3
  refine bodyPost_ret (v := .tuple #[.agg #[.int .i64 2, .int .i64 ((q.n : Int) / 4), .int .i64 0, .slice V bs.length vc], .int .i64 ((q.k : Int) + p.k + p.n), .int .i64 0]) (by simp [results, go_sem, e0, e1, e2, e3]) rfl ?_
  have s3 : w1.heap.size < w3.heap.size := S3.out
  have s1 : w.heap.size ≤ w1.heap.size := H1.out.size
  exact ⟨V, vc, by rw [Int.natCast_add, Int.natCast_add]; rfl, own_mono (own_far (own_far (own_far (own_far (own_far O4.out s3 _) (by omega) _) (by omega) _) (by omega) _) (by omega) _) (by omega), (H4.out.setCell (by simp; omega) _).trans L4⟩

/-- The item that some bytes begin with, and how many bytes it has. -/
def partS (zs : List Int) : Option (It × Nat) := match scan 0 0 zs with
  | [] => none
  | q :: _ => if q.n % 4 = 2 ∨ q.n % 4 = 3 then some (⟨((q.n % 4 : Nat) : Int) + 1, (q.n / 4 : Nat), 0, []⟩, q.k)
    else match scan 0 0 (zs.drop q.k) with
      | [] => none
      | p :: _ => if q.n % 4 = 0 then some (⟨1, (q.n / 4 : Nat), zagI p.n, []⟩, q.k + p.k)
        else if zs.length - q.k - p.k < p.n then none
        else some (⟨2, (q.n / 4 : Nat), 0, ((zs.drop q.k).drop p.k).take p.n⟩, q.k + p.k + p.n)
theorem part_some {a : Option Addr} {cap : Nat} {zs : List Int} (hlen : zs.length ≤ 100000) (hcap : zs.length ≤ cap) (hcm : cap ≤ 9223372036854775807) (hb : ∀ x ∈ zs, 0 ≤ x ∧ x ≤ 255) {w : World} (hr : Rd .u8 w.heap.size w a zs) {x : It} {k : Nat} (h : partS zs = some (x, k)) :
    Calls Tryd.prog 42 #[.slice a zs.length cap] w (APart x k w) := by
  unfold partS at h
  rcases hs : scan 0 0 zs with _ | ⟨q, qs⟩
  · rw [hs] at h; cases h
  · rw [hs] at h
    simp only at h
    by_cases hm : q.n % 4 = 2 ∨ q.n % 4 = 3
    · rw [if_pos hm] at h
      injection h with h
      injection h with h1 h2
      subst h1 h2
      exact part_group a cap zs hlen hb w hr q qs hs _ rfl hm
    · rw [if_neg hm] at h
      rcases hs2 : scan 0 0 (zs.drop q.k) with _ | ⟨p, ps⟩
      · rw [hs2] at h; cases h
      · rw [hs2] at h
        simp only at h
        by_cases h0 : q.n % 4 = 0
        · rw [if_pos h0] at h
          injection h with h
          injection h with h1 h2
          subst h1 h2
          exact part_int a cap zs hlen hcap hcm hb w hr q qs hs h0 p ps hs2
        · rw [if_neg h0] at h
          by_cases hl : zs.length - q.k - p.k < p.n
          · rw [if_pos hl] at h; cases h
          · rw [if_neg hl] at h
            injection h with h
            injection h with h1 h2
            subst h1 h2
            by_cases hc : cap = q.k + p.k
            · exact part_bytes_eq a cap zs hlen hcap hcm hb w hr q qs hs (by omega) p ps hs2 (by omega) _ rfl hc
            · exact part_bytes_ne a cap zs hlen hcap hcm hb w hr q qs hs (by omega) p ps hs2 (by omega) _ rfl hc
theorem part_none {a : Option Addr} {cap : Nat} {zs : List Int} (hlen : zs.length ≤ 100000) (hcap : zs.length ≤ cap) (hcm : cap ≤ 9223372036854775807) (hb : ∀ x ∈ zs, 0 ≤ x ∧ x ≤ 255) {w : World} (hr : Rd .u8 w.heap.size w a zs) (h : partS zs = none) :
    Calls Tryd.prog 42 #[.slice a zs.length cap] w (NoPart w) := by
  unfold partS at h
  rcases hs : scan 0 0 zs with _ | ⟨q, qs⟩
  · exact part_none1 a cap zs hlen hb w hr hs
  · rw [hs] at h
    simp only at h
    by_cases hm : q.n % 4 = 2 ∨ q.n % 4 = 3
    · rw [if_pos hm] at h; cases h
    · rw [if_neg hm] at h
      rcases hs2 : scan 0 0 (zs.drop q.k) with _ | ⟨p, ps⟩
      · by_cases h0 : q.n % 4 = 0
        · by_cases hc : cap = q.k
          · exact part_none2_0eq a cap zs hlen hcap hcm hb w hr q qs hs h0 hs2 hc
          · exact part_none2_0ne a cap zs hlen hcap hcm hb w hr q qs hs h0 hs2 hc
        · by_cases hc : cap = q.k
          · exact part_none2_1eq a cap zs hlen hcap hcm hb w hr q qs hs (by omega) hs2 hc
          · exact part_none2_1ne a cap zs hlen hcap hcm hb w hr q qs hs (by omega) hs2 hc
      · rw [hs2] at h
        simp only at h
        by_cases h0 : q.n % 4 = 0
        · rw [if_pos h0] at h; cases h
        · rw [if_neg h0] at h
          by_cases hl : zs.length - q.k - p.k < p.n
          · exact part_long a cap zs hlen hcap hcm hb w hr q qs hs (by omega) p ps hs2 hl
          · rw [if_neg hl] at h; cases h
end Go.Proofs.YtgngcpbkopjjlaaDoor
