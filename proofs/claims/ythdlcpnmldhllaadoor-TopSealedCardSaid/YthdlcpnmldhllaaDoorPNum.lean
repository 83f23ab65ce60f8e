/-
  THE PROGRAM's numbers: the bytes of an item but for those that it bears itself.
-/
import Derived.Test.YthdlcpnmldhllaaDoorPRight
namespace Go.Proofs.YthdlcpnmldhllaaDoor
open Go.RowKit

/-- The bytes of an item but for its own. -/
def numL (x : It) : List Int := putL (x.id * 4 + x.kind - 1).toNat ++ (if x.kind = 1 then putL (zigI x.n).toNat else if x.kind = 2 then putL x.bs.length else [])
theorem item_num {x : It} (h : shapeB x = true) : itemL x = numL x ++ x.bs := by
  unfold itemL numL
  rcases shape_kinds h with ⟨k, _, _, d⟩ | ⟨k, _⟩ | ⟨k, _, _, _, d⟩ | ⟨k, _, _, d⟩
  · rw [if_pos k, if_pos k, List.eq_nil_of_length_eq_zero d, List.append_nil]
  · rw [if_neg (by omega), if_pos k, if_neg (by omega), if_pos k, List.append_assoc]
  · rw [if_neg (by omega), if_neg (by omega), if_neg (by omega), if_neg (by omega), List.eq_nil_of_length_eq_zero d, List.append_nil, List.append_nil]
  · rw [if_neg (by omega), if_neg (by omega), if_neg (by omega), if_neg (by omega), List.eq_nil_of_length_eq_zero d, List.append_nil, List.append_nil]

set_option maxHeartbeats 4000000 in
set_option maxRecDepth 100000 in
theorem num_int (id n : Int) (len c : Nat) (A : Option Addr) (w : World) (u1 : Nat) (hi0 : 0 ≤ id) (hi1 : id ≤ 1000) (hu1 : 4 * id = u1) (u2 : Nat) (hu2b : u2 < 18446744073709551616) (h0 : -9223372036854775808 ≤ n) (h1 : n ≤ 9223372036854775807) (hz : zigI n = u2) :
    Calls Tryd.prog 32 #[.agg #[.int .i64 1, .int .i64 id, .int .i64 n, .slice A len c]] w (Made (putL u1 ++ putL u2) w) := by
  obtain ⟨i0, hi, hz0, hz1, hz2⟩ := info_parts Tryd.info5
  have hu1b : u1 < 18446744073709551616 := by omega
  have hl1 := putL_len10 hu1b
  have P1 : True := trivial
  have P2 : True := trivial
  have A2 : True := trivial
  have hzig := zig_any n h0 h1
  rw [hz] at hzig
  have hl2 := putL_len10 hu2b
  clear hz
  go_enter Tryd.func32, Tryd.ntmps32
  go_wp2_with (first
    | (go_at_call 60; have _p1 := P1; (with_reducible refine (put_any u1 hu1b _).mono ?_); rintro e W1 ⟨q1, e1, rfl, ho1, hb1⟩; have BX1 := Lib.hid (Box.below (heap_alloc_new w (.cells #[.int .i64 1, .int .i64 id, .int .i64 n, .slice A len c] 84)) hb1 (by simp)); have bc0 := BX1.out.cell 0; have bc2 := BX1.out.cell 2; have bc3 := BX1.out.cell 3; have O1 := Lib.hid (own_mono ho1 (by simp) : W1.ownsRow w.heap.size 5 1 _ _ _); have HB1 := Lib.hid (((Below.refl w.heap.size w).alloc (Nat.le_refl _) _).trans (hb1.mono (by simp))); clear ho1 hb1 P1)
    | (go_at_call 60; have _p2 := P2; (with_reducible refine (put_any u2 hu2b _).mono ?_); rintro e W2 ⟨q2, e2, rfl, ho2, hb2⟩; have O2 := Lib.hid (own_below O1.out hb2 (fun j hj => (O1.out.lt j hj).2)); have S2 := Lib.hid ho2; have HB2 := Lib.hid (HB1.out.trans (hb2.mono HB1.out.size)); clear ho2 hb2 P2)
    | (go_at_call 61; refine (hzig _).mono ?_; rintro e w' ⟨rfl, rfl⟩)
    | (at_builtin; have _a2 := A2; refine wpList_append_own _ rfl _ _ 35 rfl w.heap.size 5 i0 (.int .u8 0) 1 1 Tryd.underlying35 hi hz0 hz1 hz2 rfl (by decide) _ _ _ rfl O2.out ⟨q2, 0, none⟩ (putL u2).length e2 ((putL u2).map (Value.int .u8)) rfl (by simp) (S2.out.cells rfl) (one_u8 _) (by unfold maxLen; omega) (by omega) HB2.out.size ?_; intro v2 X2 ho hg hn; obtain ⟨V2, m2, rfl, _⟩ := own_form ho; have OX2 := Lib.hid ho; have HX2 := Lib.hid (HB2.out.grown hg HB2.out.size (fun j hj => (O2.out.lt j hj).1)); clear ho hg hn A2))
  go_ret
  exact Made.of (by have := putL_pos u1; rw [List.length_append]; omega) (by rw [List.length_append, List.map_append]; exact OX2.out) HX2.out

set_option maxHeartbeats 4000000 in
set_option maxRecDepth 100000 in
theorem num_bytes (id n : Int) (u2 c : Nat) (A : Option Addr) (w : World) (u1 : Nat) (hi0 : 0 ≤ id) (hi1 : id ≤ 1000) (hu1 : 4 * id + 2 - 1 = u1) (hu2b : u2 < 9223372036854775808) :
    Calls Tryd.prog 32 #[.agg #[.int .i64 2, .int .i64 id, .int .i64 n, .slice A u2 c]] w (Made (putL u1 ++ putL u2) w) := by
  obtain ⟨i0, hi, hz0, hz1, hz2⟩ := info_parts Tryd.info5
  have hu1b : u1 < 18446744073709551616 := by omega
  have hl1 := putL_len10 hu1b
  have P1 : True := trivial
  have P2 : True := trivial
  have A2 : True := trivial
  have hl2 := putL_len10 (n := u2) (by omega)
  go_enter Tryd.func32, Tryd.ntmps32
  go_wp2_with (first
    | (go_at_call 60; have _p1 := P1; (with_reducible refine (put_any u1 hu1b _).mono ?_); rintro e W1 ⟨q1, e1, rfl, ho1, hb1⟩; have BX1 := Lib.hid (Box.below (heap_alloc_new w (.cells #[.int .i64 2, .int .i64 id, .int .i64 n, .slice A u2 c] 84)) hb1 (by simp)); have bc0 := BX1.out.cell 0; have bc2 := BX1.out.cell 2; have bc3 := BX1.out.cell 3; have O1 := Lib.hid (own_mono ho1 (by simp) : W1.ownsRow w.heap.size 5 1 _ _ _); have HB1 := Lib.hid (((Below.refl w.heap.size w).alloc (Nat.le_refl _) _).trans (hb1.mono (by simp))); clear ho1 hb1 P1)
    | (go_at_call 60; have _p2 := P2; (with_reducible refine (put_any u2 (by omega) _).mono ?_); rintro e W2 ⟨q2, e2, rfl, ho2, hb2⟩; have O2 := Lib.hid (own_below O1.out hb2 (fun j hj => (O1.out.lt j hj).2)); have S2 := Lib.hid ho2; have HB2 := Lib.hid (HB1.out.trans (hb2.mono HB1.out.size)); clear ho2 hb2 P2)
    | (at_builtin; have _a2 := A2; refine wpList_append_own _ rfl _ _ 35 rfl w.heap.size 5 i0 (.int .u8 0) 1 1 Tryd.underlying35 hi hz0 hz1 hz2 rfl (by decide) _ _ _ rfl O2.out ⟨q2, 0, none⟩ (putL u2).length e2 ((putL u2).map (Value.int .u8)) rfl (by simp) (S2.out.cells rfl) (one_u8 _) (by unfold maxLen; omega) (by omega) HB2.out.size ?_; intro v2 X2 ho hg hn; obtain ⟨V2, m2, rfl, _⟩ := own_form ho; have OX2 := Lib.hid ho; have HX2 := Lib.hid (HB2.out.grown hg HB2.out.size (fun j hj => (O2.out.lt j hj).1)); clear ho hg hn A2))
  go_ret
  exact Made.of (by have := putL_pos u1; rw [List.length_append]; omega) (by rw [List.length_append, List.map_append]; exact OX2.out) HX2.out

set_option maxHeartbeats 4000000 in
set_option maxRecDepth 100000 in
theorem num_open (id n : Int) (len c : Nat) (A : Option Addr) (w : World) (u1 : Nat) (hi0 : 0 ≤ id) (hi1 : id ≤ 1000) (hu1 : 4 * id + 3 - 1 = u1) :
    Calls Tryd.prog 32 #[.agg #[.int .i64 3, .int .i64 id, .int .i64 n, .slice A len c]] w (Made (putL u1) w) := by
  obtain ⟨i0, hi, hz0, hz1, hz2⟩ := info_parts Tryd.info5
  have hu1b : u1 < 18446744073709551616 := by omega
  have hl1 := putL_len10 hu1b
  have P1 : True := trivial
  have P2 : True := trivial
  have A2 : True := trivial
  go_enter Tryd.func32, Tryd.ntmps32
  go_wp2_with (first
    | (go_at_call 60; have _p1 := P1; (with_reducible refine (put_any u1 hu1b _).mono ?_); rintro e W1 ⟨q1, e1, rfl, ho1, hb1⟩; have BX1 := Lib.hid (Box.below (heap_alloc_new w (.cells #[.int .i64 3, .int .i64 id, .int .i64 n, .slice A len c] 84)) hb1 (by simp)); have bc0 := BX1.out.cell 0; have bc2 := BX1.out.cell 2; have bc3 := BX1.out.cell 3; have O1 := Lib.hid (own_mono ho1 (by simp) : W1.ownsRow w.heap.size 5 1 _ _ _); have HB1 := Lib.hid (((Below.refl w.heap.size w).alloc (Nat.le_refl _) _).trans (hb1.mono (by simp))); clear ho1 hb1 P1))
  go_ret
  exact ⟨q1, e1, rfl, O1.out, HB1.out⟩

set_option maxHeartbeats 4000000 in
set_option maxRecDepth 100000 in
theorem num_close (id n : Int) (len c : Nat) (A : Option Addr) (w : World) (u1 : Nat) (hi0 : 0 ≤ id) (hi1 : id ≤ 1000) (hu1 : 4 * id + 4 - 1 = u1) :
    Calls Tryd.prog 32 #[.agg #[.int .i64 4, .int .i64 id, .int .i64 n, .slice A len c]] w (Made (putL u1) w) := by
  obtain ⟨i0, hi, hz0, hz1, hz2⟩ := info_parts Tryd.info5
  have hu1b : u1 < 18446744073709551616 := by omega
  have hl1 := putL_len10 hu1b
  have P1 : True := trivial
  have P2 : True := trivial
  have A2 : True := trivial
  go_enter Tryd.func32, Tryd.ntmps32
  go_wp2_with (first
    | (go_at_call 60; have _p1 := P1; (with_reducible refine (put_any u1 hu1b _).mono ?_); rintro e W1 ⟨q1, e1, rfl, ho1, hb1⟩; have BX1 := Lib.hid (Box.below (heap_alloc_new w (.cells #[.int .i64 4, .int .i64 id, .int .i64 n, .slice A len c] 84)) hb1 (by simp)); have bc0 := BX1.out.cell 0; have bc2 := BX1.out.cell 2; have bc3 := BX1.out.cell 3; have O1 := Lib.hid (own_mono ho1 (by simp) : W1.ownsRow w.heap.size 5 1 _ _ _); have HB1 := Lib.hid (((Below.refl w.heap.size w).alloc (Nat.le_refl _) _).trans (hb1.mono (by simp))); clear ho1 hb1 P1))
  go_ret
  exact ⟨q1, e1, rfl, O1.out, HB1.out⟩

theorem pnum_any (x : It) (A : Option Addr) (c : Nat) (hs : shapeB x = true) (hok : x.ok) (hlen : x.bs.length < 9223372036854775808) (w : World) :
    Calls Tryd.prog 32 #[.agg #[.int .i64 x.kind, .int .i64 x.id, .int .i64 x.n, .slice A x.bs.length c]] w (Made (numL x) w) := by
  unfold numL
  rcases shape_kinds hs with ⟨k, i0, i1, _⟩ | ⟨k, i0, i1, _⟩ | ⟨k, i0, i1, _⟩ | ⟨k, i0, _⟩
  · have bn := wf_i64 hok.2.2.1
    have hz := zig_range bn.1 bn.2
    rw [if_pos k, k]
    exact num_int x.id x.n _ c A w (x.id * 4 + 1 - 1).toNat (by omega) i1 (by omega) (zigI x.n).toNat (by omega) bn.1 bn.2 (by omega)
  · rw [if_neg (by omega), if_pos k, k]
    exact num_bytes x.id x.n _ c A w (x.id * 4 + 2 - 1).toNat (by omega) i1 (by omega) hlen
  · rw [if_neg (by omega), if_neg (by omega), k, List.append_nil]
    exact num_open x.id x.n _ c A w (x.id * 4 + 3 - 1).toNat (by omega) i1 (by omega)
  · rw [if_neg (by omega), if_neg (by omega), k, List.append_nil]
    exact num_close x.id x.n _ c A w (x.id * 4 + 4 - 1).toNat (by omega) (by omega) (by omega)
end Go.Proofs.YthdlcpnmldhllaaDoor
