/-
  TWO EQUAL SUMS ARE EQUAL, as the law compares arrays; bytes as a string.
-/
import Derived.Test.YtmmocnokgcgmnaaDoorHLaw
import Derived.DeepKeys
namespace Go.Proofs.YtmmocnokgcgmnaaDoor
open Go.RowKit
theorem mapM_some {α β : Type} {f : α → Option β} : ∀ (l : List α), (∀ x ∈ l, ∃ y, f x = some y) → ∃ ys, l.mapM f = some ys := by
  intro l
  induction l with
  | nil => intro _; exact ⟨[], rfl⟩
  | cons x l ih =>
    intro h
    obtain ⟨y, hy⟩ := h x (by simp)
    obtain ⟨ys, hys⟩ := ih fun z hz => h z (by simp [hz])
    exact ⟨y :: ys, by rw [List.mapM_cons, hy, hys]; rfl⟩
theorem keys24 {l : List Nat} (hl : l.length = 32) (hb : ∀ x ∈ l, x < 256) : ∃ la, Tryd.prog.keyLits 2 50 (u8s l) = some la := by
  have c24 : Tryd.prog.cellsOf 50 = 32 := by kernel_rfl
  have c5 : Tryd.prog.cellsOf 5 = 1 := by kernel_rfl
  obtain ⟨ys, hys⟩ := mapM_some (f := fun i => Tryd.prog.keyLits 1 5 (((u8s l).drop (i * 1)).take 1)) (List.range 32) (fun i hi => by
    have hi' : i < l.length := by rw [hl]; exact List.mem_range.1 hi
    obtain ⟨x, hx⟩ : ∃ x, l[i]? = some x := ⟨_, List.getElem?_eq_getElem hi'⟩
    have hx8 := hb x (List.mem_of_getElem? hx)
    have e : ((u8s l).drop (i * 1)).take 1 = [.int .u8 x] := by
      rw [Nat.mul_one, u8s_drop, u8s_take, List.take_one, List.head?_drop, hx]; rfl
    refine ⟨[.int .u8 x], ?_⟩
    rw [e]
    have hw : (Lit.int .u8 (x : Int)).wf = true := by simp [Lit.wf, IntKind.min, IntKind.max, IntKind.signed, IntKind.bits]; omega
    simp [Program.keyLits, Tryd.underlying5, hw])
  refine ⟨ys.flatten, ?_⟩
  unfold Program.keyLits
  simp only [Tryd.underlying50, c24, c5, u8s_len, hl, if_true]
  rw [hys]
  rfl
theorem eq24 {l : List Nat} (hl : l.length = 32) (hb : ∀ x ∈ l, x < 256) (W : World) : (Op.equalIn 10000 50 (.agg (u8s l).toArray) (.agg (u8s l).toArray)).run Tryd.prog W = .ok true W := by
  obtain ⟨la, hk⟩ := keys24 hl hb
  have c24 : Tryd.prog.cellsOf 50 = 32 := by kernel_rfl
  have hf : (Value.agg (u8s l).toArray).formed Tryd.prog 50 = true := by
    simp [Value.formed, Tryd.underlying50, c24, u8s_len, hl]
  obtain ⟨r, h1, h2⟩ := run_equalIn_deep (P := Tryd.prog) 9998 2 50 (by kernel_rfl) W 2 2 (.agg (u8s l).toArray) (.agg (u8s l).toArray) _ _ hf hf hk hk
  rw [h2.2 rfl] at h1
  exact h1
theorem conv_rdN {n₀ : Nat} {W : World} {a : Option Addr} {b : List Nat} (h : RdN n₀ W a b) {len : Nat} (hl : b.length = len) (cap : Nat) : ∃ s, ∀ W', (W'.heap = W.heap ∨ Below n₀ W W') → (convert 23 9 (.slice a len cap)).run Tryd.prog W' = .ok (.string s) W' := by
  subst hl
  refine ⟨strOfNums (b.map fun n : Nat => (n : Int)), fun W' hW => ?_⟩
  by_cases hz : 0 < b.length
  · obtain ⟨bb, off, rfl, hbb, hc⟩ := h hz
    exact run_convert_bytes_arg W' 23 5 Tryd.underlying23 Tryd.underlying5 bb off _ cap (b.map fun n : Nat => (n : Int)) (by simp) (fun i hi => by
      have hi' : i < b.length := by simpa using hi
      have e := hc i b[i] (List.getElem?_eq_getElem hi')
      have e2 : W'.cell? ⟨bb, off + i, none⟩ = W.cell? ⟨bb, off + i, none⟩ := by
        rcases hW with hW | hW
        · unfold World.cell?; rw [hW]
        · exact hW.cell (p := ⟨bb, off + i, none⟩) hbb
      rw [e2, e, List.getD_eq_getElem?_getD, List.getElem?_map, List.getElem?_eq_getElem hi']
      rfl) 9 Tryd.underlying9
  · obtain rfl : b = [] := List.eq_nil_of_length_eq_zero (by omega)
    cases a with
    | none => exact run_convert_bytes_nil W' 23 5 Tryd.underlying23 Tryd.underlying5 _ cap 9 Tryd.underlying9
    | some x =>
      rw [List.length_nil, run_convert_bytes_string W' 23 9 5 _ _ cap Tryd.underlying23 Tryd.underlying5 Tryd.underlying9]
      exact run_bytesToString W' x 0 cap [] (by simp [loadCells, loadCellsFrom, Sem.run_pure])
end Go.Proofs.YtmmocnokgcgmnaaDoor
