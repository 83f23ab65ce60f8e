/-
  NOUGHTS PUT BEHIND BYTES: 'append(s, make([]byte, n)...)'.
-/
import Derived.Test.YtmmocnokgcgmnaaDoorHAppend
namespace Go.Proofs.YtmmocnokgcgmnaaDoor
open Go.RowKit
theorem zero_u8 (m : Nat) : Builtin.zeroCells (Value.int .u8 0).cells m = (u8s (List.replicate m 0)).toArray := by
  apply Array.ext
  · simp [Builtin.zeroCells, u8s, Value.cells]
  · intro i h1 h2
    simp [Builtin.zeroCells, u8s, Value.cells, Nat.mod_one]
theorem run_append_zeros {i0 : TypeInfo} (hi : Tryd.prog.info? 5 = some i0) (hz0 : i0.zero = some (.int .u8 0)) (hz1 : i0.size = 1) (hz2 : i0.bytes = 1) {W : World} {base : Nat} {v : Value} {l : List Nat} (hown : W.ownsRow base 5 1 v l.length (u8s l)) (m : Nat) (hlen : l.length + m ≤ 1000) (hbase : base ≤ W.heap.size) (ty : TypeId) :
    ∃ v' w', (Builtin.append_ #[23, 3] ty #[v, .int .i64 m]).run Tryd.prog W = .ok v' w' ∧ w'.ownsRow base 5 1 v' (l.length + m) (u8s (l ++ List.replicate m 0)) ∧ W.grownBy w' v.ownBlock := by
  have wm : IntKind.i64.wrap (m : Int) = m := by rw [IntKind.wrap_i64]; omega
  have n1 : ¬ ((m : Int) < 0) := by omega
  have n2 : ¬ (281474976710656 < (m : Int)) := by omega
  have w0 : IntKind.i64.wrap 0 = 0 := by decide
  by_cases hm : m = 0
  · subst hm
    refine ⟨v, W, ?_, by simpa using hown, ⟨rfl, rfl, rfl, Nat.le_refl _, fun _ _ _ => rfl⟩⟩
    rcases hown.2 with ⟨rfl, hn0⟩ | ⟨g, cap, cur, rfl, hbg, hg, hnc, hcm, hcs, htake⟩
    · simp [Builtin.append_, run_underlying Tryd.underlying23, run_underlying Tryd.underlying3, sizeOf, typeInfo, hi, hz2, asInt, asIntOf, w0]
    · simp [Builtin.append_, run_underlying Tryd.underlying23, run_underlying Tryd.underlying3, sizeOf, typeInfo, hi, hz2, asInt, asIntOf, w0, hnc, storeCells]
  have hgl : (u8s (l ++ List.replicate m 0)).length = (l.length + m) * 1 := by rw [u8s_len, List.length_append, List.length_replicate, Nat.mul_one]
  have grown : ∀ (old : Nat), old < l.length + m → ∀ (row : Option Nat),
      (W.drew.alloc (.cells ((u8s l).toArray ++ (u8s (List.replicate m 0)).toArray ++ Builtin.zeroCells (Value.int .u8 0).cells (grownCap W (l.length + m) old 5 - (l.length + m))) 5)).ownsRow base 5 1
        (.slice (some ⟨W.heap.size, 0, none⟩) (l.length + m) (grownCap W (l.length + m) old 5)) (l.length + m) (u8s (l ++ List.replicate m 0)) ∧
      W.grownBy (W.drew.alloc (.cells ((u8s l).toArray ++ (u8s (List.replicate m 0)).toArray ++ Builtin.zeroCells (Value.int .u8 0).cells (grownCap W (l.length + m) old 5 - (l.length + m))) 5)) row := by
    intro old ho row
    have hge := grownCap_ge W (l.length + m) old 5
    have hcm := grownCap_le_maxLen W (l.length + m) old 5 (by unfold maxLen; omega)
    refine ⟨⟨hgl, .inr ⟨W.heap.size, _, _, rfl, hbase, heap_alloc_new W.drew _, hge, hcm, ?_, ?_⟩⟩, ⟨rfl, rfl, rfl, by simp, fun k hk _ => Below.heap_alloc W.drew _ k hk⟩⟩
    · rw [zero_u8]
      simp only [Array.size_append, List.size_toArray, u8s_len, List.length_replicate]
      omega
    · rw [u8s_append, zero_u8]
      simp only [Array.toList_append]
      rw [List.take_append_of_le_length (by simp [u8s_len])]
      exact List.take_of_length_le (by simp [u8s_len])
  rcases hown.2 with ⟨rfl, hn0⟩ | ⟨g, cap, cur, rfl, hbg, hg, hnc, hcm, hcs, htake⟩
  · obtain rfl : l = [] := List.eq_nil_of_length_eq_zero hn0
    have hgr := grown 0 (by omega) (Value.ownBlock (.slice none 0 0))
    refine ⟨_, _, ?_, hgr.1, hgr.2⟩
    have hfit : ¬ (281474976710656 < Builtin.nextslicecap m 0) := by rw [nextslicecap_zero (by omega)]; simp at hlen; omega
    have h63 : ¬ (9223372036854775807 < (m : Int)) := by simp at hlen; omega
    simp [Builtin.append_, run_underlying Tryd.underlying23, run_underlying Tryd.underlying3, sizeOf, typeInfo, zeroValue, hi, hz0, hz1, hz2, asInt, asIntOf, wm, n1, n2, hm, hfit, h63, Question.forced, Builtin.firstCells, newRow, grownCap, zero_u8, u8s]
  · by_cases hroom : l.length + m ≤ cap
    · have hst := run_storeCells_at Tryd.prog g l.length 5 (u8s (List.replicate m 0)) 0 cur W hg (by rw [u8s_len, List.length_replicate]; omega) u8s_mem
      simp only [Nat.add_zero] at hst
      refine ⟨_, _, by simp [Builtin.append_, run_underlying Tryd.underlying23, run_underlying Tryd.underlying3, sizeOf, typeInfo, zeroValue, hi, hz0, hz1, hz2, asInt, asIntOf, wm, n1, n2, hm, hroom, zero_u8, Addr.add_lit, hst]; rfl, ⟨hgl, .inr ⟨g, cap, _, rfl, hbg, setRow_heap W g cur _ 5 _ hg, hroom, hcm, ?_, ?_⟩⟩, ⟨rfl, rfl, rfl, by simp, fun k _ hk => setRow_other W g k _ (fun e => hk (by simp [Value.ownBlock, e]))⟩⟩
      · simp [u8s_len]
        omega
      · rw [u8s_append, ← htake]
        simp
        rw [← List.append_assoc]
        exact List.take_left' (by simp only [List.length_append, List.length_take, Array.length_toList, u8s_len, List.length_replicate]; omega)
    · have hgr := grown cap (by omega) (Value.ownBlock (.slice (some ⟨g, 0, none⟩) l.length cap))
      refine ⟨_, _, ?_, hgr.1, hgr.2⟩
      have holds : ∀ j u, (u8s l)[j]? = some u → W.cell? ((⟨g, 0, none⟩ : Addr).add j) = some u := hown.cells (g := g) rfl
      have hfo := run_firstCells_some (P := Tryd.prog) W.drew 1 l.length ⟨g, 0, none⟩ l.length cap (u8s l) (by rw [u8s_len, Nat.mul_one]) (by simpa using holds)
      have hfit : ¬ (281474976710656 < Builtin.nextslicecap (l.length + m) cap) := by
        have h := growslice_fits (need := l.length + m) (old := cap) (bytes := 1) (by omega) (by omega)
        omega
      have h63 : ¬ (9223372036854775807 < ((l.length : Int) + (m : Int))) := by omega
      simp [Builtin.append_, run_underlying Tryd.underlying23, run_underlying Tryd.underlying3, sizeOf, typeInfo, zeroValue, hi, hz0, hz1, hz2, asInt, asIntOf, wm, n1, n2, hm, hroom, hfit, h63, Question.forced, hfo, newRow, grownCap, zero_u8]
theorem wpList_append_zeros {w : World} {ops : Array Oper} {rest : List Oper} {o : Oper} {a : Act} {Q : Exit → Act → World → Prop} {i0 : TypeInfo} (hi : Tryd.prog.info? 5 = some i0) (hz0 : i0.zero = some (.int .u8 0)) (hz1 : i0.size = 1) (hz2 : i0.bytes = 1) (hgd : o.guard = none) (s x : Operand)
    (ho : o.op = .call { callee := .builtin .append, args := #[s, x], argTypes := #[23, 3] }) (base : Nat) (v : Value) (l : List Nat) (hs : a.eval s = v) (hown : w.ownsRow base 5 1 v l.length (u8s l))
    {m : Nat} (hx : a.eval x = .int .i64 m) (hlen : l.length + m ≤ 1000) (hbase : base ≤ w.heap.size)
    (h : ∀ v' w', Hid (w'.ownsRow base 5 1 v' (l.length + m) (u8s (l ++ List.replicate m 0))) → Hid (Below base w w') → wpList Tryd.prog ops Q rest (a.put o.dst v') w') : wpList Tryd.prog ops Q (o :: rest) a w := by
  obtain ⟨v', w', hrun, h1, h2⟩ := run_append_zeros hi hz0 hz1 hz2 hown m hlen hbase o.type
  refine wpList_plain hgd fun K hK => ?_
  unfold Oper.wp
  simp [execOp, ho, resolve, invoke, builtin, hs, hx, hrun, Result.andThen]
  exact hK _ _ (h v' w' h1 ((Below.refl base w).grown h2 hbase fun k hk => (hown.lt k hk).1))
end Go.Proofs.YtmmocnokgcgmnaaDoor
