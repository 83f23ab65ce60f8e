/-
  BYTES PUT BEHIND BYTES: one law for whatever slice comes behind; what is owned can be read.
-/
import Derived.Test.YtmmocnokgcgmnaaDoorHStep
import Derived.Laws.AppendOwnNone
namespace Go.Proofs.YtmmocnokgcgmnaaDoor
open Go.RowKit

theorem run_append_nil0 {P : Program} {w : World} (base : Nat) (t ty e : TypeId) (i : TypeInfo) (size : Nat) (ht : P.underlying t = some (.slice e)) (hi : P.info? e = some i) {v : Value} {n : Nat} {xs : List Value} (hown : w.ownsRow base e size v n xs) (c : Nat) :
    (Builtin.append_ #[t, t] ty #[v, .slice none 0 c]).run P w = .ok v w := by
  rcases hown.2 with ⟨rfl, rfl⟩ | ⟨g, cap, cur, rfl, _, _, hnc, _⟩
  · simp [Builtin.append_, run_underlying ht, sizeOf, typeInfo, hi, Builtin.lenOf, Builtin.firstCells]
  · simp [Builtin.append_, run_underlying ht, sizeOf, typeInfo, hi, Builtin.lenOf, Builtin.firstCells, hnc, storeCells]
theorem wpList_append_bytes {w : World} {ops : Array Oper} {rest : List Oper} {o : Oper} {a : Act} {Q : Exit → Act → World → Prop} {i0 : TypeInfo} (hi : Tryd.prog.info? 5 = some i0) (hz0 : i0.zero = some (.int .u8 0)) (hz1 : i0.size = 1) (hz2 : i0.bytes = 1) (hgd : o.guard = none) (s x : Operand)
    (ho : o.op = .call { callee := .builtin .append, args := #[s, x], argTypes := #[23, 23] }) (base : Nat) (v : Value) (l : List Nat) (hs : a.eval s = v) (hown : w.ownsRow base 5 1 v l.length (u8s l))
    {n₀ m c : Nat} {ad : Option Addr} {bs : List Nat} (hx : a.eval x = .slice ad m c) (hm : bs.length = m) (hr : RdN n₀ w ad bs) (hlen : l.length + bs.length ≤ 140737488355328) (hbase : base ≤ w.heap.size)
    (h : ∀ v' w', Hid (w'.ownsRow base 5 1 v' (l ++ bs).length (u8s (l ++ bs))) → Hid (Below base w w') → wpList Tryd.prog ops Q rest (a.put o.dst v') w') : wpList Tryd.prog ops Q (o :: rest) a w := by
  have go : ∀ ad', ad = some ad' → (∀ j u, (u8s bs)[j]? = some u → w.cell? (ad'.add j) = some u) → wpList Tryd.prog ops Q (o :: rest) a w := by
    rintro ad' rfl hn
    refine wpList_append_own _ hgd s x 23 ho base 5 i0 (.int .u8 0) 1 1 Tryd.underlying23 hi hz0 hz1 hz2 rfl (by decide) v _ _ hs hown ad' m c (u8s bs) hx (by rw [u8s_len, hm, Nat.mul_one]) hn u8s_mem (by unfold maxLen; omega) (by omega) hbase ?_
    intro v' w' h2 h3 _
    refine h v' w' ?_ ((Below.refl base w).grown h3 hbase fun k hk => (hown.lt k hk).1)
    unfold Hid
    rw [List.length_append, hm, u8s_append]
    exact h2
  by_cases h0 : bs = []
  · subst h0
    cases ad with
    | none =>
      refine wpList_plain hgd fun K hK => ?_
      subst hm
      have hrun := run_append_nil0 (P := Tryd.prog) (w := w) base 23 o.type 5 i0 1 Tryd.underlying23 hi hown c
      unfold Oper.wp
      simp only [List.length_nil] at hx
      simp [execOp, ho, resolve, invoke, builtin, hs, hx, hrun, Result.andThen]
      refine hK _ _ (h v w ?_ (Below.refl _ _))
      simpa [Hid] using hown
    | some ad' => exact go ad' rfl (fun j u hu => by simp [u8s] at hu)
  · obtain ⟨b, off, rfl, _, hc⟩ := hr (List.length_pos_iff.2 h0)
    refine go _ rfl fun j u hu => ?_
    have hj' : (bs[j]?).map (fun n : Nat => Value.int .u8 (n : Int)) = some u := by rw [← hu]; simp [u8s]
    cases hx2 : bs[j]? with
    | none => rw [hx2] at hj'; cases hj'
    | some y =>
      rw [hx2] at hj'
      cases hj'
      rw [show (⟨b, off, none⟩ : Addr).add j = ⟨b, off + j, none⟩ by unfold Addr.add; split <;> simp_all]
      exact hc j y hx2
/-- A copy of bytes to a block's head, within a fence. -/
theorem opIn_copy_bytes {F : Fence} {n : Nat} {o : Oper} {a : Act} {w : World} {K : Act → World → Prop} {Q : Exit → Act → World → Prop} (d s : Operand) (ho : o.op = .call { callee := .builtin .copy, args := #[d, s], argTypes := #[23, 23] })
    {g dLen dCap m c n₀ : Nat} {ad : Option Addr} {t : TypeId} {old bs : List Nat} (hd : a.eval d = .slice (some ⟨g, 0, none⟩) dLen dCap) (hs : a.eval s = .slice ad m c) (hm : bs.length = m) (hg : Arr w g t (u8s old)) (hr : RdN n₀ w ad bs) (hfit : bs.length ≤ old.length) (hdl : bs.length ≤ dLen)
    (h : ∀ w', Hid (Arr w' g t (u8s (bs ++ old.drop bs.length))) → Hid (Below g w w') → Hid (w'.heap.size = w.heap.size) → K (a.put o.dst (goInt m)) w') : o.wpIn F n Tryd.prog a w K Q := by
  subst hm
  obtain ⟨w', hrun, hA, hB, hS⟩ := run_copy_u8 (P := Tryd.prog) (dCap := dCap) (sCap := c) (dLen := dLen) Tryd.underlying23 (by kernel_rfl) o.type hg hr hfit hdl
  unfold Oper.wpIn
  refine ⟨by simp [Oper.about, ho, resolve, Target.leads, Sem.run_pure], ?_⟩
  rw [Oper.semAt_plain F _ _ (by rw [ho]; intro c hc'; cases hc')]
  simp [execOp, ho, resolve, invoke, builtin, hd, hs, hrun, Result.andThen]
  exact h w' hA hB hS
/-- What is owned can be read, and is no longer than its room. -/
theorem own_rd {w : World} {base : Nat} {v : Value} {l : List Nat} (h : w.ownsRow base 5 1 v l.length (u8s l)) (hl : 0 < l.length) : ∃ g c, v = .slice (some ⟨g, 0, none⟩) l.length c ∧ l.length ≤ c ∧ c ≤ maxLen ∧ base ≤ g ∧ RdN w.heap.size w (some ⟨g, 0, none⟩) l := by
  have h0 := h
  rcases h.2 with ⟨_, hn⟩ | ⟨g, cap, cur, rfl, hb, hg, h1, h2, _⟩
  · omega
  · refine ⟨g, cap, rfl, h1, h2, hb, fun _ => ⟨g, 0, rfl, (Array.getElem?_eq_some_iff.1 hg).1, fun j x hx => ?_⟩⟩
    have h3 := h0.cells (g := g) rfl j (.int .u8 x) (u8s_get hx)
    have hadd : (⟨g, 0, none⟩ : Addr).add j = ⟨g, 0 + j, none⟩ := by unfold Addr.add; split <;> simp_all
    rwa [hadd] at h3
end Go.Proofs.YtmmocnokgcgmnaaDoor
