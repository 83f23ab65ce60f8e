/-
  BEHIND awake: the bytes of a slice as a string; the first line of every law answers true and leaves all as it was.
-/
import Derived.Test.YthdlcpnmldhllaaDoorTake
import Derived.Laws.BytesArg
namespace Go.Proofs.YthdlcpnmldhllaaDoor
open Go.RowKit Go.Shelf

theorem conv_rd {n₀ : Nat} {W : World} {a : Option Addr} {zs : List Int} (h : Rd .u8 n₀ W a zs) (cap : Nat) : (convert 35 9 (.slice a zs.length cap)).run Tryd.prog W = .ok (.string (strOfNums zs)) W := by
  by_cases hz : 0 < zs.length
  · obtain ⟨b, off, rfl, _, hc⟩ := h hz
    exact run_convert_bytes_arg W 35 5 Tryd.underlying35 Tryd.underlying5 b off _ cap zs rfl (fun i hi => by rw [List.getD_eq_getElem?_getD]; exact hc i hi) 9 Tryd.underlying9
  · obtain rfl : zs = [] := List.eq_nil_of_length_eq_zero (by omega)
    cases a with
    | none => exact run_convert_bytes_nil W 35 5 Tryd.underlying35 Tryd.underlying5 _ cap 9 Tryd.underlying9
    | some x =>
      rw [run_convert_bytes_string W 35 9 5 _ _ cap Tryd.underlying35 Tryd.underlying5 Tryd.underlying9]
      exact run_bytesToString W x 0 cap [] (by simp [loadCells, loadCellsFrom, Sem.run_pure])

theorem Rd.of_own {base : Nat} {e : TypeId} {k : IntKind} {W : World} {g n cap : Nat} {zs : List Int} (h : W.ownsRow base e 1 (.slice (some ⟨g, 0, none⟩) n cap) n (zs.map (Value.int k))) : Rd k W.heap.size W (some ⟨g, 0, none⟩) zs := fun _ => by
  refine ⟨g, 0, rfl, (h.lt g rfl).2, fun j hj => ?_⟩
  have h1 := h.cells (g := g) rfl j (.int k (zs[j]?.getD 0)) (by simp [hj])
  have hadd : (⟨g, 0, none⟩ : Addr).add j = ⟨g, 0 + j, none⟩ := by unfold Addr.add; split <;> simp_all
  rwa [hadd] at h1

theorem putL_300 : putL 300 = [172, 2] := by rw [putL_ge (by decide), putL_lt (by decide)]; rfl
theorem take_172 : takeS [172, 2, 9] = (300, 2, 0) := by rfl

end Go.Proofs.YthdlcpnmldhllaaDoor
