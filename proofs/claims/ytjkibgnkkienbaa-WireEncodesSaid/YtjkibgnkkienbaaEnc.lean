/-
  THE DOCUMENT s Encode: it returns just the bytes of a record ("encL"), or ErrArg, or ErrFull.
-/
import Derived.Test.YtjkibgnkkienbaaRight
namespace Go.Proofs.Ytjkibgnkkienbaa
open Go.RowKit

/-- The bytes of an item, and of a list of items. -/
def itemL (x : It) : List Int := putL (x.id * 4 + x.kind - 1).toNat ++ (if x.kind = 1 then putL (zigI x.n).toNat else if x.kind = 2 then putL x.bs.length ++ x.bs else [])
def encL (l : List It) : List Int := l.flatMap itemL

theorem right_shape : ∀ (l : List It) (d : Int), rightFrom d l = true → ∀ x ∈ l, shapeB x = true := by
  intro l
  induction l with
  | nil => intro d _ x hx; simp at hx
  | cons y l ih =>
    intro d h x hx
    rw [rightFrom, Bool.and_eq_true, Bool.and_eq_true] at h
    rcases List.mem_cons.1 hx with rfl | hx
    · exact h.1.1
    · exact ih _ h.2 x hx
/-- What an item that may be is like. -/
theorem shape_kinds {x : It} (h : shapeB x = true) : (x.kind = 1 ∧ 1 ≤ x.id ∧ x.id ≤ 1000 ∧ x.bs.length = 0) ∨ (x.kind = 2 ∧ 1 ≤ x.id ∧ x.id ≤ 1000 ∧ x.n = 0) ∨ (x.kind = 3 ∧ 1 ≤ x.id ∧ x.id ≤ 1000 ∧ x.n = 0 ∧ x.bs.length = 0) ∨ (x.kind = 4 ∧ x.id = 0 ∧ x.n = 0 ∧ x.bs.length = 0) := by
  unfold shapeB at h
  by_cases h1 : x.kind = 1
  · rw [if_pos h1] at h; exact .inl ⟨h1, of_decide_eq_true h⟩
  by_cases h2 : x.kind = 2
  · rw [if_neg h1, if_pos h2] at h; exact .inr (.inl ⟨h2, of_decide_eq_true h⟩)
  by_cases h3 : x.kind = 3
  · rw [if_neg h1, if_neg h2, if_pos h3] at h; exact .inr (.inr (.inl ⟨h3, of_decide_eq_true h⟩))
  by_cases h4 : x.kind = 4
  · rw [if_neg h1, if_neg h2, if_neg h3, if_pos h4] at h; exact .inr (.inr (.inr ⟨h4, of_decide_eq_true h⟩))
  · rw [if_neg h1, if_neg h2, if_neg h3, if_neg h4] at h; cases h

/-- A block of one's own, known whole. -/
def Box (W : World) (B : Nat) (cs : Array Value) : Prop := W.heap[B]? = some (.cells cs 48 (0, 0))
theorem Box.cell {W : World} {B : Nat} {cs : Array Value} (h : Box W B cs) (i : Nat) : W.cell? ⟨B, i, none⟩ = cs[i]? := cell_of_row W B i cs 48 (0, 0) h
theorem Box.below {W W' : World} {B n₀ : Nat} {cs : Array Value} (h : Box W B cs) (hb : Below n₀ W W') (hB : B < n₀) : Box W' B cs := (hb.block B hB).trans h
theorem Box.grown {W W' : World} {B : Nat} {cs : Array Value} {row : Option Nat} (h : Box W B cs) (hg : W.grownBy W' row) (hB : B < W.heap.size) (hne : some B ≠ row) : Box W' B cs := (hg.block B hB hne).trans h
theorem enc_next {l : List It} {k : Nat} {x : It} {pre : List Int} (hp : encL (l.take k) = pre) (hx : l[k]? = some x) : encL (l.take (k + 1)) = pre ++ itemL x := by
  rw [List.take_add_one, hx, ← hp]
  simp [encL]
theorem enc_all {l : List It} (k : Nat) : (encL (l.take k)).length ≤ (encL l).length := by
  have h : encL l = encL (l.take k) ++ encL (l.drop k) := by
    unfold encL
    rw [← List.flatMap_append, List.take_append_drop]
  rw [h, List.length_append]
  omega
theorem one_u8 (l : List Int) : ∀ u ∈ l.map (Value.int .u8), u.oneCell' = true := by
  intro u hu
  obtain ⟨y, _, rfl⟩ := List.mem_map.1 hu
  rfl
theorem run_append_nilc {P : Program} {w : World} (base : Nat) (t ty e : TypeId) (i : TypeInfo) (size : Nat) (ht : P.underlying t = some (.slice e)) (hi : P.info? e = some i) {v : Value} {n : Nat} {xs : List Value} (hown : w.ownsRow base e size v n xs) (c : Nat) :
    (Builtin.append_ #[t, t] ty #[v, .slice none 0 c]).run P w = .ok v w := by
  rcases hown.2 with ⟨rfl, rfl⟩ | ⟨g, cap, cur, rfl, _, _, hnc, _⟩
  · simp [Builtin.append_, run_underlying ht, sizeOf, typeInfo, hi, Builtin.lenOf, Builtin.firstCells]
  · simp [Builtin.append_, run_underlying ht, sizeOf, typeInfo, hi, Builtin.lenOf, Builtin.firstCells, hnc, storeCells]
theorem wpList_append_nilc {P : Program} {w : World} {ops : Array Oper} {rest : List Oper} {o : Oper} {a : Act} {Q : Exit → Act → World → Prop} (hgd : o.guard = none) (s x : Operand) (t : TypeId)
    (ho : o.op = .call { callee := .builtin .append, args := #[s, x], argTypes := #[t, t] }) (base : Nat) (e : TypeId) (i : TypeInfo) (size : Nat) (ht : P.underlying t = some (.slice e)) (hi : P.info? e = some i)
    (v : Value) (n : Nat) (xs : List Value) (hs : a.eval s = v) (hown : w.ownsRow base e size v n xs) (m c : Nat) (hx : a.eval x = .slice none m c) (hm : m = 0)
    (h : wpList P ops Q rest (a.put o.dst v) w) : wpList P ops Q (o :: rest) a w := by
  subst hm
  refine wpList_plain hgd fun K hK => ?_
  have hrun := run_append_nilc (P := P) base t o.type e i size ht hi hown c
  unfold Oper.wp
  simp [execOp, ho, resolve, invoke, builtin, hs, hx, hrun, Result.andThen]
  exact hK _ _ h
theorem own_nil {w : World} {base : Nat} {v : Value} {n : Nat} {xs : List Value} {bs : List Int} (h : w.ownsRow base 5 1 v n xs) (hz : bs.length = 0) : w.ownsRow base 5 1 v (n + bs.length) (xs ++ bs.map (Value.int .u8)) := by
  obtain rfl : bs = [] := List.eq_nil_of_length_eq_zero hz
  simpa using h
theorem own_box_ne {w : World} {base : Nat} {size n : Nat} {v : Value} {xs : List Value} (h : w.ownsRow base 5 size v n xs) {B : Nat} {cs : Array Value} (hB : Box w B cs) : some B ≠ v.ownBlock := by
  rcases h.2 with ⟨rfl, _⟩ | ⟨g, cap, cur, rfl, _, hh, _⟩
  · simp [Value.ownBlock]
  · intro he
    have e : B = g := by simpa [Value.ownBlock] using he
    subst e
    unfold Box at hB
    rw [hh] at hB
    injection hB with hB
    injection hB with _ ht
    exact absurd ht (by decide)
theorem Box.lt {W : World} {B : Nat} {cs : Array Value} (h : Box W B cs) : B < W.heap.size := (Array.getElem?_eq_some_iff.1 h).1
/-- The bytes of a record, or which error. -/
def Encoded (l : List It) (w : World) (e : Ending) (w' : World) : Prop :=
  (if rightB l = false then e = .returned (.tuple #[.slice none 0 0, .int .i64 1])
   else if 4096 < (encL l).length then e = .returned (.tuple #[.slice none 0 0, .int .i64 3])
   else ∃ v, e = .returned (.tuple #[v, .int .i64 0]) ∧ w'.ownsRow w.heap.size 5 1 v (encL l).length ((encL l).map (Value.int .u8))) ∧ Below w.heap.size w w'

set_option maxHeartbeats 8000000 in
set_option maxRecDepth 100000 in
theorem rencode_any (a : Option Addr) (cap : Nat) (l : List It) (hlen : l.length ≤ 1000) (hbl : ∀ x ∈ l, x.bs.length ≤ 10000) (hok : ∀ x ∈ l, x.ok) (w : World) (hr : RdI w.heap.size w a l) :
    Calls Try.prog 15 #[.slice a l.length cap] w (Encoded l w) := by
  obtain ⟨i0, hi, hz0, hz1, hz2⟩ := info_parts Try.info5
  have hright := right_any a cap l (by omega) w hr
  have HR := Lib.hid hr
  clear hr
  by_cases hrb : rightB l = false
  · rw [hrb] at hright
    have HRB := Lib.hid hrb
    clear hrb
    go_enter Try.func15, Try.ntmps15
    go_wp2_with (go_at_call 35; refine hright.mono ?_; rintro e w1 ⟨rfl, hb1⟩; have H1 := Lib.hid hb1; clear hb1)
    go_ret2
    exact ⟨by rw [if_pos HRB.out]; rfl, H1.out⟩
  · have hrt : rightB l = true := by simpa using hrb
    have hsh := Lib.hid (right_shape l 0 hrt)
    rw [hrt] at hright
    have HRB := Lib.hid hrb
    clear hrb hrt
    go_enter Try.func15, Try.ntmps15
    go_wp2_with (go_at_call 35; refine hright.mono ?_; rintro e w1 ⟨rfl, hb1⟩; have H1 := Lib.hid hb1; clear hb1)
    go_loopw [5, 6] (fun v i wr => ∃ k : Nat, k ≤ l.length ∧ i = .int .i64 k ∧ (encL (l.take k)).length ≤ 4096 ∧ wr.ownsRow w.heap.size 5 1 v (encL (l.take k)).length ((encL (l.take k)).map (Value.int .u8)) ∧ Below w.heap.size w wr)
      (fun _ i _ => l.length - (intOf i).toNat)
    case atStart => exact ⟨0, Nat.zero_le _, rfl, by simp [encL], World.ownsRow_nil _ _ _ _, H1.out⟩
    case round =>
      obtain ⟨k, hk, rfl, hel, hown, hbel⟩ := hrel
      have HO := Lib.hid hown
      have HB := Lib.hid hbel
      clear hown hbel
      obtain ⟨pre, hpre⟩ : ∃ pre, encL (l.take k) = pre := ⟨_, rfl⟩
      rw [hpre] at hel HO
      have HP := Lib.hid hpre
      clear hpre
      by_cases hlt : k < l.length
      · obtain ⟨b, off, rfl, hb, hc⟩ := HR.out (by omega)
        obtain ⟨x, hx⟩ : ∃ x, l[k]? = some x := ⟨_, List.getElem?_eq_getElem hlt⟩
        obtain ⟨c0, c1, c2, A, c, c3, hxc, hcm, hrb⟩ := hc k x hx
        have g0 := (HB.out.cell (p := ⟨b, off + k * 4, none⟩) hb).trans c0
        have g1 := (HB.out.cell (p := ⟨b, off + k * 4 + 1, none⟩) hb).trans c1
        have g2 := (HB.out.cell (p := ⟨b, off + k * 4 + 2, none⟩) hb).trans c2
        have g3 := (HB.out.cell (p := ⟨b, off + k * 4 + 3, none⟩) hb).trans c3
        have hbs := HB.out.size
        clear hc c0 c1 c2 c3
        rcases shape_kinds (hsh.out x (List.mem_of_getElem? hx)) with ⟨k1, d1, d2, d3⟩ | ⟨k2, d1, d2, d3⟩ | ⟨k3, d1, d2, d3, d4⟩ | ⟨k4, d1, d2, d3⟩
        · have i0' : 0 ≤ x.id := by omega
          have i1' : x.id ≤ 1000 := by omega
          obtain ⟨u1, hu1⟩ : ∃ u1 : Nat, x.id * 4 = u1 := ⟨(x.id * 4).toNat, by omega⟩
          have hu1b : u1 < 18446744073709551616 := by omega
          have hu1a : u1 < 128 ^ (9 + 1) := Nat.lt_of_lt_of_le hu1b (by decide)
          have hl1 := putL_len10 hu1b
          have P1 : True := trivial
          have A1 : True := trivial
          rw [k1] at g0
          have hxo := hok x (List.mem_of_getElem? hx)
          have bn := wf_i64 hxo.2.2.1
          obtain ⟨u2, hu2b, hu2z⟩ : ∃ u2 : Nat, u2 < 18446744073709551616 ∧ zigI x.n = u2 := by have := zig_range bn.1 bn.2; exact ⟨(zigI x.n).toNat, by omega, by omega⟩
          have hu2a : u2 < 128 ^ (9 + 1) := Nat.lt_of_lt_of_le hu2b (by decide)
          have hl2 := putL_len10 hu2b
          have hzig := rzig_any x.n bn.1 bn.2
          rw [hu2z] at hzig
          have P2 : True := trivial
          have A2 : True := trivial
          have hit : itemL x = putL u1 ++ putL u2 := by
            unfold itemL
            rw [if_pos k1, hu2z]
            have : (x.id * 4 + x.kind - 1).toNat = u1 := by omega
            rw [this]
            rfl
          have HN := Lib.hid (enc_next HP.out hx)
          rw [hit] at HN
          have HE := Lib.hid (enc_all (l := l) (k + 1))
          clear hx hit hxo hu2z
          have D3 := Lib.hid d3
          clear d1 d2 d3
          have K3 := Lib.hid k1
          clear k1
          by_cases hov : 4096 < pre.length + (putL u1).length + (putL u2).length
          · go_wp2_with
            (first
              | (go_at_call 36; have _p1 := P1; (with_reducible refine (rput_any 9 u1 _ hu1a hu1b).mono ?_); rintro e W1 ⟨q1, e1, rfl, ho1, hb1⟩; have OB1 := Lib.hid (own_below (HO.out.alloc _) hb1 (fun j hj => by have := (HO.out.lt j hj).2; simp; omega)); have BX1 := Lib.hid (Box.below (heap_alloc_new wr (.cells #[.int .i64 1, .int .i64 x.id, .int .i64 x.n, .slice A x.bs.length c] 48)) hb1 (by simp)); have bc0 := BX1.out.cell 0; have bc2 := BX1.out.cell 2; have bc3 := BX1.out.cell 3; have S1 := Lib.hid ho1; have HB1 := Lib.hid (((HB.out.alloc HB.out.size _)).trans (hb1.mono (by simp; omega))); have LT1 := Lib.hid hb1.size; clear ho1 hb1 P1)
              | (at_builtin; have _a1 := A1; refine wpList_append_own _ rfl _ _ 37 rfl w.heap.size 5 i0 (.int .u8 0) 1 1 Try.underlying37 hi hz0 hz1 hz2 rfl (by decide) _ _ _ rfl OB1.out ⟨q1, 0, none⟩ (putL u1).length e1 ((putL u1).map (Value.int .u8)) rfl (by simp) (S1.out.cells rfl) (one_u8 _) (by unfold maxLen; omega) (by omega) HB1.out.size ?_; intro v1 X1 ho hg hn; obtain ⟨V1, m1, rfl, _⟩ := own_form ho; have OX1 := Lib.hid ho; have BY1 := Lib.hid (Box.grown BX1.out hg BX1.out.lt (own_box_ne OB1.out BX1.out)); clear bc0 bc2 bc3; have bc0 := BY1.out.cell 0; have bc2 := BY1.out.cell 2; have bc3 := BY1.out.cell 3; have HX1 := Lib.hid (HB1.out.grown hg HB1.out.size (fun j hj => (OB1.out.lt j hj).1)); clear ho hg hn A1)
              | (go_at_call 36; have _p2 := P2; (with_reducible refine (rput_any 9 u2 _ hu2a hu2b).mono ?_); rintro e W2 ⟨q2, e2, rfl, ho2, hb2⟩; have OB2 := Lib.hid (own_below OX1.out hb2 (fun j hj => (OX1.out.lt j hj).2)); have BX2 := Lib.hid (Box.below BY1.out hb2 BY1.out.lt); clear bc0 bc2 bc3; have bc0 := BX2.out.cell 0; have bc2 := BX2.out.cell 2; have bc3 := BX2.out.cell 3; have S2 := Lib.hid ho2; have HB2 := Lib.hid (HX1.out.trans (hb2.mono HX1.out.size)); clear ho2 hb2 P2)
              | (at_builtin; have _a2 := A2; refine wpList_append_own _ rfl _ _ 37 rfl w.heap.size 5 i0 (.int .u8 0) 1 1 Try.underlying37 hi hz0 hz1 hz2 rfl (by decide) _ _ _ rfl OB2.out ⟨q2, 0, none⟩ (putL u2).length e2 ((putL u2).map (Value.int .u8)) rfl (by simp) (S2.out.cells rfl) (one_u8 _) (by unfold maxLen; omega) (by omega) HB2.out.size ?_; intro v2 X2 ho hg hn; obtain ⟨V2, m2, rfl, _⟩ := own_form ho; have OX2 := Lib.hid ho; have BY2 := Lib.hid (Box.grown BX2.out hg BX2.out.lt (own_box_ne OB2.out BX2.out)); clear bc0 bc2 bc3; have bc0 := BY2.out.cell 0; have bc2 := BY2.out.cell 2; have bc3 := BY2.out.cell 3; have HX2 := Lib.hid (HB2.out.grown hg HB2.out.size (fun j hj => (OB2.out.lt j hj).1)); clear ho hg hn A2)
              | (go_at_call 37; refine (hzig _).mono ?_; rintro e w' ⟨rfl, rfl⟩)
              )
            go_ret2
            refine ⟨?_, HX2.out⟩
            rw [if_neg HRB.out, if_pos (by have h := HE.out; rw [HN.out, List.length_append, List.length_append] at h; omega)]
            rfl
          · go_wp2_with
            (first
              | (go_at_call 36; have _p1 := P1; (with_reducible refine (rput_any 9 u1 _ hu1a hu1b).mono ?_); rintro e W1 ⟨q1, e1, rfl, ho1, hb1⟩; have OB1 := Lib.hid (own_below (HO.out.alloc _) hb1 (fun j hj => by have := (HO.out.lt j hj).2; simp; omega)); have BX1 := Lib.hid (Box.below (heap_alloc_new wr (.cells #[.int .i64 1, .int .i64 x.id, .int .i64 x.n, .slice A x.bs.length c] 48)) hb1 (by simp)); have bc0 := BX1.out.cell 0; have bc2 := BX1.out.cell 2; have bc3 := BX1.out.cell 3; have S1 := Lib.hid ho1; have HB1 := Lib.hid (((HB.out.alloc HB.out.size _)).trans (hb1.mono (by simp; omega))); have LT1 := Lib.hid hb1.size; clear ho1 hb1 P1)
              | (at_builtin; have _a1 := A1; refine wpList_append_own _ rfl _ _ 37 rfl w.heap.size 5 i0 (.int .u8 0) 1 1 Try.underlying37 hi hz0 hz1 hz2 rfl (by decide) _ _ _ rfl OB1.out ⟨q1, 0, none⟩ (putL u1).length e1 ((putL u1).map (Value.int .u8)) rfl (by simp) (S1.out.cells rfl) (one_u8 _) (by unfold maxLen; omega) (by omega) HB1.out.size ?_; intro v1 X1 ho hg hn; obtain ⟨V1, m1, rfl, _⟩ := own_form ho; have OX1 := Lib.hid ho; have BY1 := Lib.hid (Box.grown BX1.out hg BX1.out.lt (own_box_ne OB1.out BX1.out)); clear bc0 bc2 bc3; have bc0 := BY1.out.cell 0; have bc2 := BY1.out.cell 2; have bc3 := BY1.out.cell 3; have HX1 := Lib.hid (HB1.out.grown hg HB1.out.size (fun j hj => (OB1.out.lt j hj).1)); clear ho hg hn A1)
              | (go_at_call 36; have _p2 := P2; (with_reducible refine (rput_any 9 u2 _ hu2a hu2b).mono ?_); rintro e W2 ⟨q2, e2, rfl, ho2, hb2⟩; have OB2 := Lib.hid (own_below OX1.out hb2 (fun j hj => (OX1.out.lt j hj).2)); have BX2 := Lib.hid (Box.below BY1.out hb2 BY1.out.lt); clear bc0 bc2 bc3; have bc0 := BX2.out.cell 0; have bc2 := BX2.out.cell 2; have bc3 := BX2.out.cell 3; have S2 := Lib.hid ho2; have HB2 := Lib.hid (HX1.out.trans (hb2.mono HX1.out.size)); clear ho2 hb2 P2)
              | (at_builtin; have _a2 := A2; refine wpList_append_own _ rfl _ _ 37 rfl w.heap.size 5 i0 (.int .u8 0) 1 1 Try.underlying37 hi hz0 hz1 hz2 rfl (by decide) _ _ _ rfl OB2.out ⟨q2, 0, none⟩ (putL u2).length e2 ((putL u2).map (Value.int .u8)) rfl (by simp) (S2.out.cells rfl) (one_u8 _) (by unfold maxLen; omega) (by omega) HB2.out.size ?_; intro v2 X2 ho hg hn; obtain ⟨V2, m2, rfl, _⟩ := own_form ho; have OX2 := Lib.hid ho; have BY2 := Lib.hid (Box.grown BX2.out hg BX2.out.lt (own_box_ne OB2.out BX2.out)); clear bc0 bc2 bc3; have bc0 := BY2.out.cell 0; have bc2 := BY2.out.cell 2; have bc3 := BY2.out.cell 3; have HX2 := Lib.hid (HB2.out.grown hg HB2.out.size (fun j hj => (OB2.out.lt j hj).1)); clear ho hg hn A2)
              | (go_at_call 37; refine (hzig _).mono ?_; rintro e w' ⟨rfl, rfl⟩)
              )
            go_roundw
            case rel => exact ⟨k + 1, by omega, by go_num, by rw [HN.out, List.length_append, List.length_append]; omega, by rw [HN.out, List.length_append, List.length_append, ← Nat.add_assoc, List.map_append, List.map_append, ← List.append_assoc]; exact OX2.out, HX2.out⟩
            case measure => simp [intOf]; omega
        · have i0' : 0 ≤ x.id := by omega
          have i1' : x.id ≤ 1000 := by omega
          obtain ⟨u1, hu1⟩ : ∃ u1 : Nat, x.id * 4 + 2 - 1 = u1 := ⟨(x.id * 4 + 2 - 1).toNat, by omega⟩
          have hu1b : u1 < 18446744073709551616 := by omega
          have hu1a : u1 < 128 ^ (9 + 1) := Nat.lt_of_lt_of_le hu1b (by decide)
          have hl1 := putL_len10 hu1b
          have P1 : True := trivial
          have A1 : True := trivial
          rw [k2] at g0
          have hbl' := hbl x (List.mem_of_getElem? hx)
          have hu2b : x.bs.length < 18446744073709551616 := by omega
          have hu2a : x.bs.length < 128 ^ (9 + 1) := Nat.lt_of_lt_of_le hu2b (by decide)
          have hl2 := putL_len10 hu2b
          have P2 : True := trivial
          have A2 : True := trivial
          have A3 : True := trivial
          have hit : itemL x = putL u1 ++ (putL x.bs.length ++ x.bs) := by
            unfold itemL
            rw [if_neg (by omega), if_pos k2]
            have : (x.id * 4 + x.kind - 1).toNat = u1 := by omega
            rw [this]
          have HN := Lib.hid (enc_next HP.out hx)
          rw [hit] at HN
          have HE := Lib.hid (enc_all (l := l) (k + 1))
          clear hx hit
          have D3 := Lib.hid d3
          clear d1 d2 d3
          have K3 := Lib.hid k2
          clear k2
          have RB := Lib.hid hrb
          clear hrb
          rcases A with _ | ad
          · have HZ : Hid (x.bs.length = 0) := by
              rcases Nat.eq_zero_or_pos x.bs.length with h | h
              · exact h
              · obtain ⟨_, _, h', _⟩ := RB.out h
                cases h'
            have hzle : x.bs.length ≤ 0 := by have := HZ.out; omega
            by_cases hov : 4096 < pre.length + (putL u1).length + (putL x.bs.length).length + x.bs.length
            · go_wp2_with
            (first
              | (go_at_call 36; have _p1 := P1; (with_reducible refine (rput_any 9 u1 _ hu1a hu1b).mono ?_); rintro e W1 ⟨q1, e1, rfl, ho1, hb1⟩; have OB1 := Lib.hid (own_below (HO.out.alloc _) hb1 (fun j hj => by have := (HO.out.lt j hj).2; simp; omega)); have BX1 := Lib.hid (Box.below (heap_alloc_new wr (.cells #[.int .i64 2, .int .i64 x.id, .int .i64 x.n, .slice none x.bs.length c] 48)) hb1 (by simp)); have bc0 := BX1.out.cell 0; have bc2 := BX1.out.cell 2; have bc3 := BX1.out.cell 3; have S1 := Lib.hid ho1; have HB1 := Lib.hid (((HB.out.alloc HB.out.size _)).trans (hb1.mono (by simp; omega))); have LT1 := Lib.hid hb1.size; clear ho1 hb1 P1)
              | (at_builtin; have _a1 := A1; refine wpList_append_own _ rfl _ _ 37 rfl w.heap.size 5 i0 (.int .u8 0) 1 1 Try.underlying37 hi hz0 hz1 hz2 rfl (by decide) _ _ _ rfl OB1.out ⟨q1, 0, none⟩ (putL u1).length e1 ((putL u1).map (Value.int .u8)) rfl (by simp) (S1.out.cells rfl) (one_u8 _) (by unfold maxLen; omega) (by omega) HB1.out.size ?_; intro v1 X1 ho hg hn; obtain ⟨V1, m1, rfl, _⟩ := own_form ho; have OX1 := Lib.hid ho; have BY1 := Lib.hid (Box.grown BX1.out hg BX1.out.lt (own_box_ne OB1.out BX1.out)); clear bc0 bc2 bc3; have bc0 := BY1.out.cell 0; have bc2 := BY1.out.cell 2; have bc3 := BY1.out.cell 3; have HX1 := Lib.hid (HB1.out.grown hg HB1.out.size (fun j hj => (OB1.out.lt j hj).1)); clear ho hg hn A1)
              | (go_at_call 36; have _p2 := P2; (with_reducible refine (rput_any 9 x.bs.length _ hu2a hu2b).mono ?_); rintro e W2 ⟨q2, e2, rfl, ho2, hb2⟩; have OB2 := Lib.hid (own_below OX1.out hb2 (fun j hj => (OX1.out.lt j hj).2)); have BX2 := Lib.hid (Box.below BY1.out hb2 BY1.out.lt); clear bc0 bc2 bc3; have bc0 := BX2.out.cell 0; have bc2 := BX2.out.cell 2; have bc3 := BX2.out.cell 3; have S2 := Lib.hid ho2; have HB2 := Lib.hid (HX1.out.trans (hb2.mono HX1.out.size)); clear ho2 hb2 P2)
              | (at_builtin; have _a2 := A2; refine wpList_append_own _ rfl _ _ 37 rfl w.heap.size 5 i0 (.int .u8 0) 1 1 Try.underlying37 hi hz0 hz1 hz2 rfl (by decide) _ _ _ rfl OB2.out ⟨q2, 0, none⟩ (putL x.bs.length).length e2 ((putL x.bs.length).map (Value.int .u8)) rfl (by simp) (S2.out.cells rfl) (one_u8 _) (by unfold maxLen; omega) (by omega) HB2.out.size ?_; intro v2 X2 ho hg hn; obtain ⟨V2, m2, rfl, _⟩ := own_form ho; have OX2 := Lib.hid ho; have BY2 := Lib.hid (Box.grown BX2.out hg BX2.out.lt (own_box_ne OB2.out BX2.out)); clear bc0 bc2 bc3; have bc0 := BY2.out.cell 0; have bc2 := BY2.out.cell 2; have bc3 := BY2.out.cell 3; have HX2 := Lib.hid (HB2.out.grown hg HB2.out.size (fun j hj => (OB2.out.lt j hj).1)); clear ho hg hn A2)
              | (at_builtin; have _a3 := A3; refine wpList_append_nilc rfl _ _ 37 rfl w.heap.size 5 i0 1 Try.underlying37 hi _ _ _ rfl OX2.out x.bs.length c rfl HZ.out ?_; have OX3 := Lib.hid (own_nil OX2.out HZ.out); have HX3 := HX2; clear A3)
              )
              go_ret2
              refine ⟨?_, HX3.out⟩
              rw [if_neg HRB.out, if_pos (by have h := HE.out; rw [HN.out, List.length_append, List.length_append, List.length_append] at h; omega)]
              rfl
            · go_wp2_with
            (first
              | (go_at_call 36; have _p1 := P1; (with_reducible refine (rput_any 9 u1 _ hu1a hu1b).mono ?_); rintro e W1 ⟨q1, e1, rfl, ho1, hb1⟩; have OB1 := Lib.hid (own_below (HO.out.alloc _) hb1 (fun j hj => by have := (HO.out.lt j hj).2; simp; omega)); have BX1 := Lib.hid (Box.below (heap_alloc_new wr (.cells #[.int .i64 2, .int .i64 x.id, .int .i64 x.n, .slice none x.bs.length c] 48)) hb1 (by simp)); have bc0 := BX1.out.cell 0; have bc2 := BX1.out.cell 2; have bc3 := BX1.out.cell 3; have S1 := Lib.hid ho1; have HB1 := Lib.hid (((HB.out.alloc HB.out.size _)).trans (hb1.mono (by simp; omega))); have LT1 := Lib.hid hb1.size; clear ho1 hb1 P1)
              | (at_builtin; have _a1 := A1; refine wpList_append_own _ rfl _ _ 37 rfl w.heap.size 5 i0 (.int .u8 0) 1 1 Try.underlying37 hi hz0 hz1 hz2 rfl (by decide) _ _ _ rfl OB1.out ⟨q1, 0, none⟩ (putL u1).length e1 ((putL u1).map (Value.int .u8)) rfl (by simp) (S1.out.cells rfl) (one_u8 _) (by unfold maxLen; omega) (by omega) HB1.out.size ?_; intro v1 X1 ho hg hn; obtain ⟨V1, m1, rfl, _⟩ := own_form ho; have OX1 := Lib.hid ho; have BY1 := Lib.hid (Box.grown BX1.out hg BX1.out.lt (own_box_ne OB1.out BX1.out)); clear bc0 bc2 bc3; have bc0 := BY1.out.cell 0; have bc2 := BY1.out.cell 2; have bc3 := BY1.out.cell 3; have HX1 := Lib.hid (HB1.out.grown hg HB1.out.size (fun j hj => (OB1.out.lt j hj).1)); clear ho hg hn A1)
              | (go_at_call 36; have _p2 := P2; (with_reducible refine (rput_any 9 x.bs.length _ hu2a hu2b).mono ?_); rintro e W2 ⟨q2, e2, rfl, ho2, hb2⟩; have OB2 := Lib.hid (own_below OX1.out hb2 (fun j hj => (OX1.out.lt j hj).2)); have BX2 := Lib.hid (Box.below BY1.out hb2 BY1.out.lt); clear bc0 bc2 bc3; have bc0 := BX2.out.cell 0; have bc2 := BX2.out.cell 2; have bc3 := BX2.out.cell 3; have S2 := Lib.hid ho2; have HB2 := Lib.hid (HX1.out.trans (hb2.mono HX1.out.size)); clear ho2 hb2 P2)
              | (at_builtin; have _a2 := A2; refine wpList_append_own _ rfl _ _ 37 rfl w.heap.size 5 i0 (.int .u8 0) 1 1 Try.underlying37 hi hz0 hz1 hz2 rfl (by decide) _ _ _ rfl OB2.out ⟨q2, 0, none⟩ (putL x.bs.length).length e2 ((putL x.bs.length).map (Value.int .u8)) rfl (by simp) (S2.out.cells rfl) (one_u8 _) (by unfold maxLen; omega) (by omega) HB2.out.size ?_; intro v2 X2 ho hg hn; obtain ⟨V2, m2, rfl, _⟩ := own_form ho; have OX2 := Lib.hid ho; have BY2 := Lib.hid (Box.grown BX2.out hg BX2.out.lt (own_box_ne OB2.out BX2.out)); clear bc0 bc2 bc3; have bc0 := BY2.out.cell 0; have bc2 := BY2.out.cell 2; have bc3 := BY2.out.cell 3; have HX2 := Lib.hid (HB2.out.grown hg HB2.out.size (fun j hj => (OB2.out.lt j hj).1)); clear ho hg hn A2)
              | (at_builtin; have _a3 := A3; refine wpList_append_nilc rfl _ _ 37 rfl w.heap.size 5 i0 1 Try.underlying37 hi _ _ _ rfl OX2.out x.bs.length c rfl HZ.out ?_; have OX3 := Lib.hid (own_nil OX2.out HZ.out); have HX3 := HX2; clear A3)
              )
              go_roundw
              case rel => exact ⟨k + 1, by omega, by go_num, by rw [HN.out, List.length_append, List.length_append, List.length_append]; omega, by rw [HN.out, List.length_append, List.length_append, List.length_append, ← Nat.add_assoc, ← Nat.add_assoc, List.map_append, List.map_append, List.map_append, ← List.append_assoc, ← List.append_assoc]; exact OX3.out, HX3.out⟩
              case measure => simp [intOf]; omega
          · skip
            by_cases hov : 4096 < pre.length + (putL u1).length + (putL x.bs.length).length + x.bs.length
            · go_wp2_with
            (first
              | (go_at_call 36; have _p1 := P1; (with_reducible refine (rput_any 9 u1 _ hu1a hu1b).mono ?_); rintro e W1 ⟨q1, e1, rfl, ho1, hb1⟩; have OB1 := Lib.hid (own_below (HO.out.alloc _) hb1 (fun j hj => by have := (HO.out.lt j hj).2; simp; omega)); have BX1 := Lib.hid (Box.below (heap_alloc_new wr (.cells #[.int .i64 2, .int .i64 x.id, .int .i64 x.n, .slice (some ad) x.bs.length c] 48)) hb1 (by simp)); have bc0 := BX1.out.cell 0; have bc2 := BX1.out.cell 2; have bc3 := BX1.out.cell 3; have S1 := Lib.hid ho1; have HB1 := Lib.hid (((HB.out.alloc HB.out.size _)).trans (hb1.mono (by simp; omega))); have LT1 := Lib.hid hb1.size; clear ho1 hb1 P1)
              | (at_builtin; have _a1 := A1; refine wpList_append_own _ rfl _ _ 37 rfl w.heap.size 5 i0 (.int .u8 0) 1 1 Try.underlying37 hi hz0 hz1 hz2 rfl (by decide) _ _ _ rfl OB1.out ⟨q1, 0, none⟩ (putL u1).length e1 ((putL u1).map (Value.int .u8)) rfl (by simp) (S1.out.cells rfl) (one_u8 _) (by unfold maxLen; omega) (by omega) HB1.out.size ?_; intro v1 X1 ho hg hn; obtain ⟨V1, m1, rfl, _⟩ := own_form ho; have OX1 := Lib.hid ho; have BY1 := Lib.hid (Box.grown BX1.out hg BX1.out.lt (own_box_ne OB1.out BX1.out)); clear bc0 bc2 bc3; have bc0 := BY1.out.cell 0; have bc2 := BY1.out.cell 2; have bc3 := BY1.out.cell 3; have HX1 := Lib.hid (HB1.out.grown hg HB1.out.size (fun j hj => (OB1.out.lt j hj).1)); clear ho hg hn A1)
              | (go_at_call 36; have _p2 := P2; (with_reducible refine (rput_any 9 x.bs.length _ hu2a hu2b).mono ?_); rintro e W2 ⟨q2, e2, rfl, ho2, hb2⟩; have OB2 := Lib.hid (own_below OX1.out hb2 (fun j hj => (OX1.out.lt j hj).2)); have BX2 := Lib.hid (Box.below BY1.out hb2 BY1.out.lt); clear bc0 bc2 bc3; have bc0 := BX2.out.cell 0; have bc2 := BX2.out.cell 2; have bc3 := BX2.out.cell 3; have S2 := Lib.hid ho2; have HB2 := Lib.hid (HX1.out.trans (hb2.mono HX1.out.size)); clear ho2 hb2 P2)
              | (at_builtin; have _a2 := A2; refine wpList_append_own _ rfl _ _ 37 rfl w.heap.size 5 i0 (.int .u8 0) 1 1 Try.underlying37 hi hz0 hz1 hz2 rfl (by decide) _ _ _ rfl OB2.out ⟨q2, 0, none⟩ (putL x.bs.length).length e2 ((putL x.bs.length).map (Value.int .u8)) rfl (by simp) (S2.out.cells rfl) (one_u8 _) (by unfold maxLen; omega) (by omega) HB2.out.size ?_; intro v2 X2 ho hg hn; obtain ⟨V2, m2, rfl, _⟩ := own_form ho; have OX2 := Lib.hid ho; have BY2 := Lib.hid (Box.grown BX2.out hg BX2.out.lt (own_box_ne OB2.out BX2.out)); clear bc0 bc2 bc3; have bc0 := BY2.out.cell 0; have bc2 := BY2.out.cell 2; have bc3 := BY2.out.cell 3; have HX2 := Lib.hid (HB2.out.grown hg HB2.out.size (fun j hj => (OB2.out.lt j hj).1)); clear ho hg hn A2)
              | (at_builtin; have _a3 := A3; refine wpList_append_own _ rfl _ _ 37 rfl w.heap.size 5 i0 (.int .u8 0) 1 1 Try.underlying37 hi hz0 hz1 hz2 rfl (by decide) _ _ _ rfl OX2.out ad x.bs.length c (x.bs.map (Value.int .u8)) rfl (by simp) (RB.out.below HX2.out).news (one_u8 _) (by unfold maxLen; omega) (by omega) HX2.out.size ?_; intro v3 X3 ho hg hn; obtain ⟨V3, m3, rfl, _⟩ := own_form ho; have OX3 := Lib.hid ho; have HX3 := Lib.hid (HX2.out.grown hg HX2.out.size (fun j hj => (OX2.out.lt j hj).1)); clear ho hg hn A3)
              )
              go_ret2
              refine ⟨?_, HX3.out⟩
              rw [if_neg HRB.out, if_pos (by have h := HE.out; rw [HN.out, List.length_append, List.length_append, List.length_append] at h; omega)]
              rfl
            · go_wp2_with
            (first
              | (go_at_call 36; have _p1 := P1; (with_reducible refine (rput_any 9 u1 _ hu1a hu1b).mono ?_); rintro e W1 ⟨q1, e1, rfl, ho1, hb1⟩; have OB1 := Lib.hid (own_below (HO.out.alloc _) hb1 (fun j hj => by have := (HO.out.lt j hj).2; simp; omega)); have BX1 := Lib.hid (Box.below (heap_alloc_new wr (.cells #[.int .i64 2, .int .i64 x.id, .int .i64 x.n, .slice (some ad) x.bs.length c] 48)) hb1 (by simp)); have bc0 := BX1.out.cell 0; have bc2 := BX1.out.cell 2; have bc3 := BX1.out.cell 3; have S1 := Lib.hid ho1; have HB1 := Lib.hid (((HB.out.alloc HB.out.size _)).trans (hb1.mono (by simp; omega))); have LT1 := Lib.hid hb1.size; clear ho1 hb1 P1)
              | (at_builtin; have _a1 := A1; refine wpList_append_own _ rfl _ _ 37 rfl w.heap.size 5 i0 (.int .u8 0) 1 1 Try.underlying37 hi hz0 hz1 hz2 rfl (by decide) _ _ _ rfl OB1.out ⟨q1, 0, none⟩ (putL u1).length e1 ((putL u1).map (Value.int .u8)) rfl (by simp) (S1.out.cells rfl) (one_u8 _) (by unfold maxLen; omega) (by omega) HB1.out.size ?_; intro v1 X1 ho hg hn; obtain ⟨V1, m1, rfl, _⟩ := own_form ho; have OX1 := Lib.hid ho; have BY1 := Lib.hid (Box.grown BX1.out hg BX1.out.lt (own_box_ne OB1.out BX1.out)); clear bc0 bc2 bc3; have bc0 := BY1.out.cell 0; have bc2 := BY1.out.cell 2; have bc3 := BY1.out.cell 3; have HX1 := Lib.hid (HB1.out.grown hg HB1.out.size (fun j hj => (OB1.out.lt j hj).1)); clear ho hg hn A1)
              | (go_at_call 36; have _p2 := P2; (with_reducible refine (rput_any 9 x.bs.length _ hu2a hu2b).mono ?_); rintro e W2 ⟨q2, e2, rfl, ho2, hb2⟩; have OB2 := Lib.hid (own_below OX1.out hb2 (fun j hj => (OX1.out.lt j hj).2)); have BX2 := Lib.hid (Box.below BY1.out hb2 BY1.out.lt); clear bc0 bc2 bc3; have bc0 := BX2.out.cell 0; have bc2 := BX2.out.cell 2; have bc3 := BX2.out.cell 3; have S2 := Lib.hid ho2; have HB2 := Lib.hid (HX1.out.trans (hb2.mono HX1.out.size)); clear ho2 hb2 P2)
              | (at_builtin; have _a2 := A2; refine wpList_append_own _ rfl _ _ 37 rfl w.heap.size 5 i0 (.int .u8 0) 1 1 Try.underlying37 hi hz0 hz1 hz2 rfl (by decide) _ _ _ rfl OB2.out ⟨q2, 0, none⟩ (putL x.bs.length).length e2 ((putL x.bs.length).map (Value.int .u8)) rfl (by simp) (S2.out.cells rfl) (one_u8 _) (by unfold maxLen; omega) (by omega) HB2.out.size ?_; intro v2 X2 ho hg hn; obtain ⟨V2, m2, rfl, _⟩ := own_form ho; have OX2 := Lib.hid ho; have BY2 := Lib.hid (Box.grown BX2.out hg BX2.out.lt (own_box_ne OB2.out BX2.out)); clear bc0 bc2 bc3; have bc0 := BY2.out.cell 0; have bc2 := BY2.out.cell 2; have bc3 := BY2.out.cell 3; have HX2 := Lib.hid (HB2.out.grown hg HB2.out.size (fun j hj => (OB2.out.lt j hj).1)); clear ho hg hn A2)
              | (at_builtin; have _a3 := A3; refine wpList_append_own _ rfl _ _ 37 rfl w.heap.size 5 i0 (.int .u8 0) 1 1 Try.underlying37 hi hz0 hz1 hz2 rfl (by decide) _ _ _ rfl OX2.out ad x.bs.length c (x.bs.map (Value.int .u8)) rfl (by simp) (RB.out.below HX2.out).news (one_u8 _) (by unfold maxLen; omega) (by omega) HX2.out.size ?_; intro v3 X3 ho hg hn; obtain ⟨V3, m3, rfl, _⟩ := own_form ho; have OX3 := Lib.hid ho; have HX3 := Lib.hid (HX2.out.grown hg HX2.out.size (fun j hj => (OX2.out.lt j hj).1)); clear ho hg hn A3)
              )
              go_roundw
              case rel => exact ⟨k + 1, by omega, by go_num, by rw [HN.out, List.length_append, List.length_append, List.length_append]; omega, by rw [HN.out, List.length_append, List.length_append, List.length_append, ← Nat.add_assoc, ← Nat.add_assoc, List.map_append, List.map_append, List.map_append, ← List.append_assoc, ← List.append_assoc]; exact OX3.out, HX3.out⟩
              case measure => simp [intOf]; omega
        · have i0' : 0 ≤ x.id := by omega
          have i1' : x.id ≤ 1000 := by omega
          obtain ⟨u1, hu1⟩ : ∃ u1 : Nat, x.id * 4 + 3 - 1 = u1 := ⟨(x.id * 4 + 3 - 1).toNat, by omega⟩
          have hu1b : u1 < 18446744073709551616 := by omega
          have hu1a : u1 < 128 ^ (9 + 1) := Nat.lt_of_lt_of_le hu1b (by decide)
          have hl1 := putL_len10 hu1b
          have P1 : True := trivial
          have A1 : True := trivial
          rw [k3] at g0
          have hit : itemL x = putL u1 := by
            unfold itemL
            rw [if_neg (by omega), if_neg (by omega), List.append_nil]
            have : (x.id * 4 + x.kind - 1).toNat = u1 := by omega
            rw [this]
          have HN := Lib.hid (enc_next HP.out hx)
          rw [hit] at HN
          have HE := Lib.hid (enc_all (l := l) (k + 1))
          clear hx hit
          have D3 := Lib.hid d3
          clear d1 d3 d2 d4
          have K3 := Lib.hid k3
          clear k3
          by_cases hov : 4096 < pre.length + (putL u1).length
          · go_wp2_with
              (first
                | (go_at_call 36; have _p1 := P1; (with_reducible refine (rput_any 9 u1 _ hu1a hu1b).mono ?_); rintro e W1 ⟨q1, e1, rfl, ho1, hb1⟩; have OB1 := Lib.hid (own_below (HO.out.alloc _) hb1 (fun j hj => by have := (HO.out.lt j hj).2; simp; omega)); have BX1 := Lib.hid (Box.below (heap_alloc_new wr (.cells #[.int .i64 3, .int .i64 x.id, .int .i64 x.n, .slice A x.bs.length c] 48)) hb1 (by simp)); have bc0 := BX1.out.cell 0; have bc2 := BX1.out.cell 2; have bc3 := BX1.out.cell 3; have S1 := Lib.hid ho1; have HB1 := Lib.hid (((HB.out.alloc HB.out.size _)).trans (hb1.mono (by simp; omega))); have LT1 := Lib.hid hb1.size; clear ho1 hb1 P1)
                | (at_builtin; have _a1 := A1; refine wpList_append_own _ rfl _ _ 37 rfl w.heap.size 5 i0 (.int .u8 0) 1 1 Try.underlying37 hi hz0 hz1 hz2 rfl (by decide) _ _ _ rfl OB1.out ⟨q1, 0, none⟩ (putL u1).length e1 ((putL u1).map (Value.int .u8)) rfl (by simp) (S1.out.cells rfl) (one_u8 _) (by unfold maxLen; omega) (by omega) HB1.out.size ?_; intro v1 X1 ho hg hn; obtain ⟨V1, m1, rfl, _⟩ := own_form ho; have OX1 := Lib.hid ho; have BY1 := Lib.hid (Box.grown BX1.out hg BX1.out.lt (own_box_ne OB1.out BX1.out)); clear bc0 bc2 bc3; have bc0 := BY1.out.cell 0; have bc2 := BY1.out.cell 2; have bc3 := BY1.out.cell 3; have HX1 := Lib.hid (HB1.out.grown hg HB1.out.size (fun j hj => (OB1.out.lt j hj).1)); clear ho hg hn A1)
              )
            go_ret2
            refine ⟨?_, HX1.out⟩
            rw [if_neg HRB.out, if_pos (by have h := HE.out; rw [HN.out, List.length_append] at h; omega)]
            rfl
          · go_wp2_with
              (first
                | (go_at_call 36; have _p1 := P1; (with_reducible refine (rput_any 9 u1 _ hu1a hu1b).mono ?_); rintro e W1 ⟨q1, e1, rfl, ho1, hb1⟩; have OB1 := Lib.hid (own_below (HO.out.alloc _) hb1 (fun j hj => by have := (HO.out.lt j hj).2; simp; omega)); have BX1 := Lib.hid (Box.below (heap_alloc_new wr (.cells #[.int .i64 3, .int .i64 x.id, .int .i64 x.n, .slice A x.bs.length c] 48)) hb1 (by simp)); have bc0 := BX1.out.cell 0; have bc2 := BX1.out.cell 2; have bc3 := BX1.out.cell 3; have S1 := Lib.hid ho1; have HB1 := Lib.hid (((HB.out.alloc HB.out.size _)).trans (hb1.mono (by simp; omega))); have LT1 := Lib.hid hb1.size; clear ho1 hb1 P1)
                | (at_builtin; have _a1 := A1; refine wpList_append_own _ rfl _ _ 37 rfl w.heap.size 5 i0 (.int .u8 0) 1 1 Try.underlying37 hi hz0 hz1 hz2 rfl (by decide) _ _ _ rfl OB1.out ⟨q1, 0, none⟩ (putL u1).length e1 ((putL u1).map (Value.int .u8)) rfl (by simp) (S1.out.cells rfl) (one_u8 _) (by unfold maxLen; omega) (by omega) HB1.out.size ?_; intro v1 X1 ho hg hn; obtain ⟨V1, m1, rfl, _⟩ := own_form ho; have OX1 := Lib.hid ho; have BY1 := Lib.hid (Box.grown BX1.out hg BX1.out.lt (own_box_ne OB1.out BX1.out)); clear bc0 bc2 bc3; have bc0 := BY1.out.cell 0; have bc2 := BY1.out.cell 2; have bc3 := BY1.out.cell 3; have HX1 := Lib.hid (HB1.out.grown hg HB1.out.size (fun j hj => (OB1.out.lt j hj).1)); clear ho hg hn A1)
              )
            go_roundw
            case rel => exact ⟨k + 1, by omega, by go_num, by rw [HN.out, List.length_append]; omega, by rw [HN.out, List.length_append, List.map_append]; exact OX1.out, HX1.out⟩
            case measure => simp [intOf]; omega
        · have i0' : 0 ≤ x.id := by omega
          have i1' : x.id ≤ 1000 := by omega
          obtain ⟨u1, hu1⟩ : ∃ u1 : Nat, x.id * 4 + 4 - 1 = u1 := ⟨(x.id * 4 + 4 - 1).toNat, by omega⟩
          have hu1b : u1 < 18446744073709551616 := by omega
          have hu1a : u1 < 128 ^ (9 + 1) := Nat.lt_of_lt_of_le hu1b (by decide)
          have hl1 := putL_len10 hu1b
          have P1 : True := trivial
          have A1 : True := trivial
          rw [k4] at g0
          have hit : itemL x = putL u1 := by
            unfold itemL
            rw [if_neg (by omega), if_neg (by omega), List.append_nil]
            have : (x.id * 4 + x.kind - 1).toNat = u1 := by omega
            rw [this]
          have HN := Lib.hid (enc_next HP.out hx)
          rw [hit] at HN
          have HE := Lib.hid (enc_all (l := l) (k + 1))
          clear hx hit
          have D3 := Lib.hid d3
          clear d1 d3 d2
          have K3 := Lib.hid k4
          clear k4
          by_cases hov : 4096 < pre.length + (putL u1).length
          · go_wp2_with
              (first
                | (go_at_call 36; have _p1 := P1; (with_reducible refine (rput_any 9 u1 _ hu1a hu1b).mono ?_); rintro e W1 ⟨q1, e1, rfl, ho1, hb1⟩; have OB1 := Lib.hid (own_below (HO.out.alloc _) hb1 (fun j hj => by have := (HO.out.lt j hj).2; simp; omega)); have BX1 := Lib.hid (Box.below (heap_alloc_new wr (.cells #[.int .i64 4, .int .i64 x.id, .int .i64 x.n, .slice A x.bs.length c] 48)) hb1 (by simp)); have bc0 := BX1.out.cell 0; have bc2 := BX1.out.cell 2; have bc3 := BX1.out.cell 3; have S1 := Lib.hid ho1; have HB1 := Lib.hid (((HB.out.alloc HB.out.size _)).trans (hb1.mono (by simp; omega))); have LT1 := Lib.hid hb1.size; clear ho1 hb1 P1)
                | (at_builtin; have _a1 := A1; refine wpList_append_own _ rfl _ _ 37 rfl w.heap.size 5 i0 (.int .u8 0) 1 1 Try.underlying37 hi hz0 hz1 hz2 rfl (by decide) _ _ _ rfl OB1.out ⟨q1, 0, none⟩ (putL u1).length e1 ((putL u1).map (Value.int .u8)) rfl (by simp) (S1.out.cells rfl) (one_u8 _) (by unfold maxLen; omega) (by omega) HB1.out.size ?_; intro v1 X1 ho hg hn; obtain ⟨V1, m1, rfl, _⟩ := own_form ho; have OX1 := Lib.hid ho; have BY1 := Lib.hid (Box.grown BX1.out hg BX1.out.lt (own_box_ne OB1.out BX1.out)); clear bc0 bc2 bc3; have bc0 := BY1.out.cell 0; have bc2 := BY1.out.cell 2; have bc3 := BY1.out.cell 3; have HX1 := Lib.hid (HB1.out.grown hg HB1.out.size (fun j hj => (OB1.out.lt j hj).1)); clear ho hg hn A1)
              )
            go_ret2
            refine ⟨?_, HX1.out⟩
            rw [if_neg HRB.out, if_pos (by have h := HE.out; rw [HN.out, List.length_append] at h; omega)]
            rfl
          · go_wp2_with
              (first
                | (go_at_call 36; have _p1 := P1; (with_reducible refine (rput_any 9 u1 _ hu1a hu1b).mono ?_); rintro e W1 ⟨q1, e1, rfl, ho1, hb1⟩; have OB1 := Lib.hid (own_below (HO.out.alloc _) hb1 (fun j hj => by have := (HO.out.lt j hj).2; simp; omega)); have BX1 := Lib.hid (Box.below (heap_alloc_new wr (.cells #[.int .i64 4, .int .i64 x.id, .int .i64 x.n, .slice A x.bs.length c] 48)) hb1 (by simp)); have bc0 := BX1.out.cell 0; have bc2 := BX1.out.cell 2; have bc3 := BX1.out.cell 3; have S1 := Lib.hid ho1; have HB1 := Lib.hid (((HB.out.alloc HB.out.size _)).trans (hb1.mono (by simp; omega))); have LT1 := Lib.hid hb1.size; clear ho1 hb1 P1)
                | (at_builtin; have _a1 := A1; refine wpList_append_own _ rfl _ _ 37 rfl w.heap.size 5 i0 (.int .u8 0) 1 1 Try.underlying37 hi hz0 hz1 hz2 rfl (by decide) _ _ _ rfl OB1.out ⟨q1, 0, none⟩ (putL u1).length e1 ((putL u1).map (Value.int .u8)) rfl (by simp) (S1.out.cells rfl) (one_u8 _) (by unfold maxLen; omega) (by omega) HB1.out.size ?_; intro v1 X1 ho hg hn; obtain ⟨V1, m1, rfl, _⟩ := own_form ho; have OX1 := Lib.hid ho; have BY1 := Lib.hid (Box.grown BX1.out hg BX1.out.lt (own_box_ne OB1.out BX1.out)); clear bc0 bc2 bc3; have bc0 := BY1.out.cell 0; have bc2 := BY1.out.cell 2; have bc3 := BY1.out.cell 3; have HX1 := Lib.hid (HB1.out.grown hg HB1.out.size (fun j hj => (OB1.out.lt j hj).1)); clear ho hg hn A1)
              )
            go_roundw
            case rel => exact ⟨k + 1, by omega, by go_num, by rw [HN.out, List.length_append]; omega, by rw [HN.out, List.length_append, List.map_append]; exact OX1.out, HX1.out⟩
            case measure => simp [intOf]; omega
      · obtain rfl : k = l.length := by omega
        have hpl := HP.out
        rw [List.take_of_length_le (Nat.le_refl _)] at hpl
        subst hpl
        go_wp2
        go_ret2
        refine ⟨?_, HB.out⟩
        rw [if_neg HRB.out, if_neg (by omega)]
        exact ⟨_, rfl, HO.out⟩
end Go.Proofs.Ytjkibgnkkienbaa
