/-
  THE PROGRAM's Encode: it returns just the bytes of a record ("encL"), or ErrArg, or ErrFull.
-/
import Derived.Test.YthdlcpnmldhllaaDoorPNum
namespace Go.Proofs.YthdlcpnmldhllaaDoor
open Go.RowKit

theorem numL_len {x : It} (hs : shapeB x = true) (hok : x.ok) (hlen : x.bs.length < 9223372036854775808) : (numL x).length ≤ 20 := by
  have bn := wf_i64 hok.2.2.1
  have hz := zig_range bn.1 bn.2
  have h1 : (putL (x.id * 4 + x.kind - 1).toNat).length ≤ 10 := by
    refine putL_len10 ?_
    rcases shape_kinds hs with ⟨k, i0, i1, _⟩ | ⟨k, i0, i1, _⟩ | ⟨k, i0, i1, _⟩ | ⟨k, i0, _⟩ <;> omega
  unfold numL
  rw [List.length_append]
  split
  · have := putL_len10 (n := (zigI x.n).toNat) (by omega)
    omega
  · split
    · have := putL_len10 (n := x.bs.length) (by omega)
      omega
    · simp only [List.length_nil]; omega

set_option maxHeartbeats 8000000 in
set_option maxRecDepth 100000 in
theorem pencode_any (a : Option Addr) (cap : Nat) (l : List It) (hlen : l.length ≤ 1000000) (hbl : ∀ x ∈ l, x.bs.length ≤ 1000000) (hok : ∀ x ∈ l, x.ok) (w : World) (hr : RdI w.heap.size w a l) :
    Calls Tryd.prog 11 #[.slice a l.length cap] w (Encoded l w) := by
  obtain ⟨i0, hi, hz0, hz1, hz2⟩ := info_parts Tryd.info5
  have hright := pright_any a cap l (by omega) w hr
  have HR := Lib.hid hr
  clear hr
  by_cases hrb : rightB l = false
  · rw [hrb] at hright
    have HRB := Lib.hid hrb
    clear hrb
    go_enter Tryd.func11, Tryd.ntmps11
    go_wp2_with (go_at_call 31; refine hright.mono ?_; rintro e w1 ⟨rfl, hb1⟩; have H1 := Lib.hid hb1; clear hb1)
    go_ret2
    exact ⟨by rw [if_pos HRB.out]; rfl, H1.out⟩
  · have hrt : rightB l = true := by simpa using hrb
    have hsh := Lib.hid (right_shape l 0 hrt)
    rw [hrt] at hright
    have HRB := Lib.hid hrb
    clear hrb hrt
    go_enter Tryd.func11, Tryd.ntmps11
    go_wp2_with (go_at_call 31; refine hright.mono ?_; rintro e w1 ⟨rfl, hb1⟩; have H1 := Lib.hid hb1; clear hb1)
    go_loopw [4, 12] (fun v i wr => ∃ k : Nat, k ≤ l.length ∧ i = .int .i64 k ∧ (encL (l.take k)).length ≤ 4096 ∧ wr.ownsRow w.heap.size 5 1 v (encL (l.take k)).length ((encL (l.take k)).map (Value.int .u8)) ∧ Below w.heap.size w wr)
      (fun _ i _ => l.length - (intOf i).toNat)
    case atStart => exact ⟨0, Nat.zero_le _, rfl, by simp [encL], World.ownsRow_nil _ _ _ _, H1.out⟩
    case round =>
      obtain ⟨k, hk, rfl, hel, hown, hbel⟩ := hrel
      have HO := Lib.hid hown
      have HB := Lib.hid hbel
      clear hown hbel
      obtain ⟨pre, hpre⟩ : ∃ pre, encL (l.take k) = pre := ⟨_, rfl⟩
      rw [hpre] at hel HO
      have HP := Lib.hid hpre
      clear hpre
      by_cases hlt : k < l.length
      · obtain ⟨b, off, rfl, hb, hc⟩ := HR.out (by omega)
        obtain ⟨x, hx⟩ : ∃ x, l[k]? = some x := ⟨_, List.getElem?_eq_getElem hlt⟩
        obtain ⟨c0, c1, c2, A, c, c3, hxc, hcm, hrb⟩ := hc k x hx
        have g0 := (HB.out.cell (p := ⟨b, off + k * 4, none⟩) hb).trans c0
        have g1 := (HB.out.cell (p := ⟨b, off + k * 4 + 1, none⟩) hb).trans c1
        have g2 := (HB.out.cell (p := ⟨b, off + k * 4 + 2, none⟩) hb).trans c2
        have g3 := (HB.out.cell (p := ⟨b, off + k * 4 + 3, none⟩) hb).trans c3
        have hbs := HB.out.size
        have hxm := List.mem_of_getElem? hx
        have hbl' := hbl x hxm
        have hshx := hsh.out x hxm
        have hnl := numL_len hshx (hok x hxm) (by omega)
        have HNUM0 := pnum_any x A c hshx (hok x hxm) (by omega)
        have hit := item_num hshx
        obtain ⟨nl, hnle⟩ : ∃ nl, numL x = nl := ⟨_, rfl⟩
        rw [hnle] at hnl HNUM0 hit
        have HNUM := Lib.hid HNUM0
        have HN := Lib.hid (enc_next HP.out hx)
        rw [hit] at HN
        have HE := Lib.hid (enc_all (l := l) (k + 1))
        have RB := Lib.hid hrb
        have P1 : True := trivial
        have A1 : True := trivial
        have A2 : True := trivial
        clear hc c0 c1 c2 c3 hx hxm hshx hit hnle HNUM0 hrb
        cases A with
        | none =>
          have hbz : x.bs.length = 0 := by
            rcases Nat.eq_zero_or_pos x.bs.length with h | h
            · exact h
            · obtain ⟨_, _, h', _⟩ := RB.out h; cases h'
          have HBZ := Lib.hid hbz
          clear hbz
          by_cases hov : 4096 < pre.length + nl.length + x.bs.length
          · go_wp2_with (first
              | (go_at_call 32; have _p1 := P1; (with_reducible refine (HNUM.out _).mono ?_); rintro e W1 ⟨q1, e1, rfl, ho1, hb1⟩; have OB1 := Lib.hid (own_below (HO.out.alloc _) hb1 (fun j hj => by have := (HO.out.lt j hj).2; simp; omega)); have BX1 := Lib.hid (Box.below (heap_alloc_new wr (.cells #[.int .i64 x.kind, .int .i64 x.id, .int .i64 x.n, .slice none x.bs.length c] 84)) hb1 (by simp)); have bc3 := BX1.out.cell 3; have S1 := Lib.hid ho1; have HB1 := Lib.hid (((HB.out.alloc HB.out.size _)).trans (hb1.mono (by simp; omega))); clear ho1 hb1 P1)
              | (at_builtin; have _a1 := A1; refine wpList_append_own _ rfl _ _ 35 rfl w.heap.size 5 i0 (.int .u8 0) 1 1 Tryd.underlying35 hi hz0 hz1 hz2 rfl (by decide) _ _ _ rfl OB1.out ⟨q1, 0, none⟩ nl.length e1 (nl.map (Value.int .u8)) rfl (by simp) (S1.out.cells rfl) (one_u8 _) (by unfold maxLen; omega) (by omega) HB1.out.size ?_; intro v1 X1 ho hg hn; obtain ⟨V1, m1, rfl, _⟩ := own_form ho; have OX1 := Lib.hid ho; have BY1 := Lib.hid (Box.grown BX1.out hg BX1.out.lt (own_box_ne OB1.out BX1.out)); clear bc3; have bc3 := BY1.out.cell 3; have HX1 := Lib.hid (HB1.out.grown hg HB1.out.size (fun j hj => (OB1.out.lt j hj).1)); clear ho hg hn A1))
            go_ret2
            refine ⟨?_, HX1.out⟩
            rw [if_neg HRB.out, if_pos (by have h := HE.out; rw [HN.out, List.length_append, List.length_append] at h; omega)]
            rfl
          · go_wp2_with (first
              | (go_at_call 32; have _p1 := P1; (with_reducible refine (HNUM.out _).mono ?_); rintro e W1 ⟨q1, e1, rfl, ho1, hb1⟩; have OB1 := Lib.hid (own_below (HO.out.alloc _) hb1 (fun j hj => by have := (HO.out.lt j hj).2; simp; omega)); have BX1 := Lib.hid (Box.below (heap_alloc_new wr (.cells #[.int .i64 x.kind, .int .i64 x.id, .int .i64 x.n, .slice none x.bs.length c] 84)) hb1 (by simp)); have bc3 := BX1.out.cell 3; have S1 := Lib.hid ho1; have HB1 := Lib.hid (((HB.out.alloc HB.out.size _)).trans (hb1.mono (by simp; omega))); clear ho1 hb1 P1)
              | (at_builtin; have _a1 := A1; refine wpList_append_own _ rfl _ _ 35 rfl w.heap.size 5 i0 (.int .u8 0) 1 1 Tryd.underlying35 hi hz0 hz1 hz2 rfl (by decide) _ _ _ rfl OB1.out ⟨q1, 0, none⟩ nl.length e1 (nl.map (Value.int .u8)) rfl (by simp) (S1.out.cells rfl) (one_u8 _) (by unfold maxLen; omega) (by omega) HB1.out.size ?_; intro v1 X1 ho hg hn; obtain ⟨V1, m1, rfl, _⟩ := own_form ho; have OX1 := Lib.hid ho; have BY1 := Lib.hid (Box.grown BX1.out hg BX1.out.lt (own_box_ne OB1.out BX1.out)); clear bc3; have bc3 := BY1.out.cell 3; have HX1 := Lib.hid (HB1.out.grown hg HB1.out.size (fun j hj => (OB1.out.lt j hj).1)); clear ho hg hn A1)
              | (at_builtin; have _a2 := A2; refine wpList_append_nilc rfl _ _ 35 rfl w.heap.size 5 i0 1 Tryd.underlying35 hi _ _ _ rfl OX1.out x.bs.length c rfl HBZ.out ?_; have OX2 := Lib.hid (own_nil OX1.out HBZ.out); have HX2 := Lib.hid HX1.out; clear A2))
            go_roundw
            case rel => exact ⟨k + 1, by omega, by go_num, by rw [HN.out, List.length_append, List.length_append]; omega, by rw [HN.out, List.length_append, List.length_append, ← Nat.add_assoc, List.map_append, List.map_append, ← List.append_assoc]; exact OX2.out, HX2.out⟩
            case measure => simp [intOf]; omega
        | some ad =>
          by_cases hov : 4096 < pre.length + nl.length + x.bs.length
          · go_wp2_with (first
              | (go_at_call 32; have _p1 := P1; (with_reducible refine (HNUM.out _).mono ?_); rintro e W1 ⟨q1, e1, rfl, ho1, hb1⟩; have OB1 := Lib.hid (own_below (HO.out.alloc _) hb1 (fun j hj => by have := (HO.out.lt j hj).2; simp; omega)); have BX1 := Lib.hid (Box.below (heap_alloc_new wr (.cells #[.int .i64 x.kind, .int .i64 x.id, .int .i64 x.n, .slice (some ad) x.bs.length c] 84)) hb1 (by simp)); have bc3 := BX1.out.cell 3; have S1 := Lib.hid ho1; have HB1 := Lib.hid (((HB.out.alloc HB.out.size _)).trans (hb1.mono (by simp; omega))); clear ho1 hb1 P1)
              | (at_builtin; have _a1 := A1; refine wpList_append_own _ rfl _ _ 35 rfl w.heap.size 5 i0 (.int .u8 0) 1 1 Tryd.underlying35 hi hz0 hz1 hz2 rfl (by decide) _ _ _ rfl OB1.out ⟨q1, 0, none⟩ nl.length e1 (nl.map (Value.int .u8)) rfl (by simp) (S1.out.cells rfl) (one_u8 _) (by unfold maxLen; omega) (by omega) HB1.out.size ?_; intro v1 X1 ho hg hn; obtain ⟨V1, m1, rfl, _⟩ := own_form ho; have OX1 := Lib.hid ho; have BY1 := Lib.hid (Box.grown BX1.out hg BX1.out.lt (own_box_ne OB1.out BX1.out)); clear bc3; have bc3 := BY1.out.cell 3; have HX1 := Lib.hid (HB1.out.grown hg HB1.out.size (fun j hj => (OB1.out.lt j hj).1)); clear ho hg hn A1))
            go_ret2
            refine ⟨?_, HX1.out⟩
            rw [if_neg HRB.out, if_pos (by have h := HE.out; rw [HN.out, List.length_append, List.length_append] at h; omega)]
            rfl
          · go_wp2_with (first
              | (go_at_call 32; have _p1 := P1; (with_reducible refine (HNUM.out _).mono ?_); rintro e W1 ⟨q1, e1, rfl, ho1, hb1⟩; have OB1 := Lib.hid (own_below (HO.out.alloc _) hb1 (fun j hj => by have := (HO.out.lt j hj).2; simp; omega)); have BX1 := Lib.hid (Box.below (heap_alloc_new wr (.cells #[.int .i64 x.kind, .int .i64 x.id, .int .i64 x.n, .slice (some ad) x.bs.length c] 84)) hb1 (by simp)); have bc3 := BX1.out.cell 3; have S1 := Lib.hid ho1; have HB1 := Lib.hid (((HB.out.alloc HB.out.size _)).trans (hb1.mono (by simp; omega))); clear ho1 hb1 P1)
              | (at_builtin; have _a1 := A1; refine wpList_append_own _ rfl _ _ 35 rfl w.heap.size 5 i0 (.int .u8 0) 1 1 Tryd.underlying35 hi hz0 hz1 hz2 rfl (by decide) _ _ _ rfl OB1.out ⟨q1, 0, none⟩ nl.length e1 (nl.map (Value.int .u8)) rfl (by simp) (S1.out.cells rfl) (one_u8 _) (by unfold maxLen; omega) (by omega) HB1.out.size ?_; intro v1 X1 ho hg hn; obtain ⟨V1, m1, rfl, _⟩ := own_form ho; have OX1 := Lib.hid ho; have BY1 := Lib.hid (Box.grown BX1.out hg BX1.out.lt (own_box_ne OB1.out BX1.out)); clear bc3; have bc3 := BY1.out.cell 3; have HX1 := Lib.hid (HB1.out.grown hg HB1.out.size (fun j hj => (OB1.out.lt j hj).1)); clear ho hg hn A1)
              | (at_builtin; have _a2 := A2; refine wpList_append_own _ rfl _ _ 35 rfl w.heap.size 5 i0 (.int .u8 0) 1 1 Tryd.underlying35 hi hz0 hz1 hz2 rfl (by decide) _ _ _ rfl OX1.out ad x.bs.length c (x.bs.map (Value.int .u8)) rfl (by simp) (RB.out.below HX1.out).news (one_u8 _) (by unfold maxLen; omega) (by omega) HX1.out.size ?_; intro v2 X2 ho hg hn; obtain ⟨V2, m2, rfl, _⟩ := own_form ho; have OX2 := Lib.hid ho; have HX2 := Lib.hid (HX1.out.grown hg HX1.out.size (fun j hj => (OX1.out.lt j hj).1)); clear ho hg hn A2))
            go_roundw
            case rel => exact ⟨k + 1, by omega, by go_num, by rw [HN.out, List.length_append, List.length_append]; omega, by rw [HN.out, List.length_append, List.length_append, ← Nat.add_assoc, List.map_append, List.map_append, ← List.append_assoc]; exact OX2.out, HX2.out⟩
            case measure => simp [intOf]; omega
      · obtain rfl : k = l.length := by omega
        have hpl := HP.out
        rw [List.take_of_length_le (Nat.le_refl _)] at hpl
        subst hpl
        go_wp2
        go_ret2
        refine ⟨?_, HB.out⟩
        rw [if_neg HRB.out, if_neg (by omega)]
        exact ⟨_, rfl, HO.out⟩
end Go.Proofs.YthdlcpnmldhllaaDoor
