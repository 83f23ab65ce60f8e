/-
  TWO ROWS OF BYTES THAT GROW SIDE BY SIDE.
-/
import Derived.Test.YtmkbeccglphohaaDoorHKeys
namespace Go.Proofs.YtmkbeccglphohaaDoor
open Go.RowKit
/-- Bytes put behind bytes; besides, what the row's own block is not stays. -/
theorem wpList_append_grow {w : World} {ops : Array Oper} {rest : List Oper} {o : Oper} {a : Act} {Q : Exit → Act → World → Prop} {i0 : TypeInfo} (hi : Tryd.prog.info? 5 = some i0) (hz0 : i0.zero = some (.int .u8 0)) (hz1 : i0.size = 1) (hz2 : i0.bytes = 1) (hgd : o.guard = none) (s x : Operand)
    (ho : o.op = .call { callee := .builtin .append, args := #[s, x], argTypes := #[22, 22] }) (base : Nat) (v : Value) (l : List Nat) (hs : a.eval s = v) (hown : w.ownsRow base 5 1 v l.length (u8s l))
    {n₀ m c : Nat} {ad : Option Addr} {bs : List Nat} (hx : a.eval x = .slice ad m c) (hm : bs.length = m) (hr : RdN n₀ w ad bs) (hlen : l.length + bs.length ≤ 140737488355328) (hbase : base ≤ w.heap.size)
    (h : ∀ v' w', Hid (w'.ownsRow base 5 1 v' (l ++ bs).length (u8s (l ++ bs))) → Hid (w.grownBy w' v.ownBlock) → wpList Tryd.prog ops Q rest (a.put o.dst v') w') : wpList Tryd.prog ops Q (o :: rest) a w := by
  have go : ∀ ad', ad = some ad' → (∀ j u, (u8s bs)[j]? = some u → w.cell? (ad'.add j) = some u) → wpList Tryd.prog ops Q (o :: rest) a w := by
    rintro ad' rfl hn
    refine wpList_append_own _ hgd s x 22 ho base 5 i0 (.int .u8 0) 1 1 Tryd.underlying22 hi hz0 hz1 hz2 rfl (by decide) v _ _ hs hown ad' m c (u8s bs) hx (by rw [u8s_len, hm, Nat.mul_one]) hn u8s_mem (by unfold maxLen; omega) (by omega) hbase ?_
    intro v' w' h2 h3 _
    refine h v' w' ?_ h3
    unfold Hid
    rw [List.length_append, hm, u8s_append]
    exact h2
  by_cases h0 : bs = []
  · subst h0
    cases ad with
    | none =>
      refine wpList_plain hgd fun K hK => ?_
      subst hm
      have hrun := run_append_nil0 (P := Tryd.prog) (w := w) base 22 o.type 5 i0 1 Tryd.underlying22 hi hown c
      unfold Oper.wp
      simp only [List.length_nil] at hx
      simp [execOp, ho, resolve, invoke, builtin, hs, hx, hrun, Result.andThen]
      refine hK _ _ (h v w ?_ (World.grownBy.refl _ _))
      simpa [Hid] using hown
    | some ad' => exact go ad' rfl (fun j u hu => by simp [u8s] at hu)
  · obtain ⟨b, off, rfl, _, hc⟩ := hr (List.length_pos_iff.2 h0)
    refine go _ rfl fun j u hu => ?_
    have hj' : (bs[j]?).map (fun n : Nat => Value.int .u8 (n : Int)) = some u := by rw [← hu]; simp [u8s]
    cases hx2 : bs[j]? with
    | none => rw [hx2] at hj'; cases hj'
    | some y =>
      rw [hx2] at hj'
      cases hj'
      rw [show (⟨b, off, none⟩ : Addr).add j = ⟨b, off + j, none⟩ by unfold Addr.add; split <;> simp_all]
      exact hc j y hx2
theorem own_apart {w : World} {base base' : Nat} {v u : Value} {l m : List Nat} {x y : Nat} (h1 : w.ownsRow base 5 1 v l.length (u8s l)) (h2 : w.ownsRow base' 5 1 u m.length (u8s m)) (hx : l[0]? = some x) (hy : m[0]? = some y) (hne : x ≠ y) : v.ownBlock ≠ u.ownBlock := by
  intro e
  have l0 : 0 < l.length := (List.getElem?_eq_some_iff.1 hx).1
  have m0 : 0 < m.length := (List.getElem?_eq_some_iff.1 hy).1
  obtain ⟨g, c, rfl, _, _, _, r1⟩ := own_rd h1 l0
  obtain ⟨g2, c2, rfl, _, _, _, r2⟩ := own_rd h2 m0
  obtain rfl : g = g2 := by simpa [Value.ownBlock] using e
  obtain ⟨b, o, e1, _, c1⟩ := r1 l0
  obtain ⟨b', o', e2, _, c2⟩ := r2 m0
  injection e1 with e1; injection e1 with ea eb; subst ea eb
  injection e2 with e2; injection e2 with ea eb; subst ea eb
  have k1 := c1 0 x hx
  have k2 := c2 0 y hy
  rw [k1] at k2
  simp at k2
  omega
theorem mask_head {F : List Nat} {x : Nat} (hx : F[0]? = some x) (m : Nat) {k : Nat} (hk : 0 < k) : (maskL (F.take k) m)[0]? = some (x ^^^ m) := by
  rw [maskL, List.getElem?_map, List.getElem?_take, if_pos hk, hx]; rfl
theorem xor_apart (x : Nat) : x ^^^ 54 ≠ x ^^^ 92 := by
  intro e
  have h : x ^^^ (x ^^^ 54) = x ^^^ (x ^^^ 92) := by rw [e]
  rw [← Nat.xor_assoc, ← Nat.xor_assoc, Nat.xor_self, Nat.zero_xor, Nat.zero_xor] at h
  omega
theorem mask_take {F : List Nat} {k x : Nat} (hx : F[k]? = some x) (m : Nat) : maskL (F.take (k + 1)) m = maskL (F.take k) m ++ [x ^^^ m] := by
  rw [List.take_add_one, hx]; simp [maskL]
end Go.Proofs.YtmkbeccglphohaaDoor
