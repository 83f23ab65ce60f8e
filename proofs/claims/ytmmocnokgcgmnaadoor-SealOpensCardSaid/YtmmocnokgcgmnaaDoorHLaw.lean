/-
  WHAT EVERY LAW OF THE HASH BEGINS WITH: the tables as the program's text lays them; bytes that came in; 'awake'.
-/
import Derived.Test.YtmmocnokgcgmnaaDoorHMac
import Derived.Test.YtmmocnokgcgmnaaDoorTie
import Derived.LaidMore
import Derived.OpenShut
import Derived.Laws.BytesArg
import Derived.Lib.SmallJoins
namespace Go.Proofs.YtmmocnokgcgmnaaDoor
open Go.RowKit Go.ChangeShapes Go.WideShapes
set_option linter.unusedVariables false

section
variable {H : Type} {enc : TypeId × Value → H} {P : Program} {w : World} {sp : Nat → Bool} {held : Bool} {fuel : Nat}
/-- An array of numbers, by its datum. -/
theorem arr_ints {t e : TypeId} {k : IntKind} {n : Nat} {cs : List Value} {d : DataW H} {p : List MemPlace} (ht : P.underlying t = some (.array n e)) (he : P.underlying e = some (.int k)) (hc : P.cellsOf e = 1)
    (h : DataW.trod enc P w 0 sp held fuel t cs = some (d, p)) (zs : List Int) (hx : d = DataW.agg (zs.map fun z => DataW.lit (Lit.int k z))) : ∀ (i : Nat) (z : Int), zs[i]? = some z → cs[i]? = some (Value.int k z) := by
  obtain ⟨xs, m, rfl, hx1, hlen, hn, hel⟩ := DataW.trod_array ht h
  injection hx1 with hx1 _
  rw [hx] at hx1
  injection hx1 with hx1
  have hzl : zs.length = n := by have := congrArg List.length hx1; simpa [hn] using this
  intro i z hz
  have hi : i < n := by rw [← hzl]; exact (List.getElem?_eq_some_iff.1 hz).1
  have h0 := hel i hi
  rw [hc, Nat.mul_one] at h0
  obtain ⟨y, hy⟩ : ∃ y, xs[i]? = some y := ⟨_, List.getElem?_eq_getElem (by omega)⟩
  rw [hy] at h0
  obtain ⟨q, e1, e2, _⟩ := DataW.trod_int he h0
  have e3 : (zs.map fun z => (DataW.lit (.int k z) : DataW H))[i]? = some y.1 := by rw [hx1, List.getElem?_map, hy]; rfl
  rw [List.getElem?_map, hz, e2] at e3
  simp only [Option.map_some, Option.some.injEq, DataW.lit.injEq, Lit.int.injEq, true_and] at e3
  subst e3
  have e4 : ((cs.drop i).take 1)[0]? = some (.int k z) := by rw [e1]; rfl
  rw [List.getElem?_take, if_pos (by decide), List.getElem?_drop, Nat.add_zero] at e4
  exact e4
end
theorem gStart : Tryd.prog.globalNamed "selvage/sha.start" = some 0 := by kernel_rfl
theorem gK : Tryd.prog.globalNamed "selvage/sha.k" = some 1 := by kernel_rfl
theorem tStart : (Tryd.prog.globals[0]?).map (·.type) = some 60 := by kernel_rfl
theorem tK : (Tryd.prog.globals[1]?).map (·.type) = some 64 := by kernel_rfl
theorem tabs_of {W : World} (h : laidMetH Tryd.prog [("selvage/sha.start", Rows.laid_selvage_sha_start), ("selvage/sha.k", Rows.laid_selvage_sha_k)] W) : Tabs W := by
  rw [MakeChecks.laidMetH_plain _ _ _ (by kernel_rfl)] at h
  obtain ⟨ps, ⟨g0, t0, cs0, f0, p0, q0, hg0, ht0, hv0, hd0, hrest⟩, hx⟩ := h
  obtain ⟨⟨g1, t1, cs1, f1, p1, q1, hg1, ht1, hv1, hd1, _⟩, _⟩ := hrest
  obtain rfl := Option.some.inj (gStart.symm.trans hg0)
  obtain rfl := Option.some.inj (tStart.symm.trans ht0)
  obtain rfl := Option.some.inj (gK.symm.trans hg1)
  obtain rfl := Option.some.inj (tK.symm.trans ht1)
  have e0 := arr_ints Tryd.underlying60 Tryd.underlying59 (by kernel_rfl) hd0 (beginH.list.map fun n : Nat => (n : Int)) rfl
  have e1 := arr_ints Tryd.underlying64 Tryd.underlying59 (by kernel_rfl) hd1 (tabK.map fun n : Nat => (n : Int)) rfl
  refine ⟨fun j v hv => ?_, fun j v hv => ?_⟩
  · obtain ⟨n, hn, rfl⟩ : ∃ n : Nat, beginH.list[j]? = some n ∧ Value.int .u32 (n : Int) = v := by
      unfold u32s at hv
      rw [List.getElem?_map] at hv
      exact Option.map_eq_some_iff.1 hv
    have h := e0 j n (by rw [List.getElem?_map, hn]; rfl)
    rw [Nat.zero_add, World.var?_cell hg0 hv0 j]
    simpa using h
  · obtain ⟨n, hn, rfl⟩ : ∃ n : Nat, tabK[j]? = some n ∧ Value.int .u32 (n : Int) = v := by
      unfold u32s at hv
      rw [List.getElem?_map] at hv
      exact Option.map_eq_some_iff.1 hv
    have h := e1 j n (by rw [List.getElem?_map, hn]; rfl)
    rw [Nat.zero_add, World.var?_cell hg1 hv1 j]
    simpa using h
theorem door_met (os : Os) (args : Array Value) : laidMetH Tryd.prog [("selvage/sha.start", Rows.laid_selvage_sha_start), ("selvage/sha.k", Rows.laid_selvage_sha_k)] ((World.doorLaid Tryd.prog 400 os).forCall (fun _ _ => 0) ⟨#[], args, []⟩).memory :=
  laidMetH_of_parts3 (fuel := 8) (laidMet_of_run' 8 (by kernel_rfl) (by kernel_rfl)) (by kernel_rfl) (by kernel_rfl)

/-- Bytes as they came in. -/
def InB (w : World) (a : Option Addr) (len cap : Nat) (b : List Nat) : Prop := b.length = len ∧ len ≤ cap ∧ cap ≤ maxLen ∧ (∀ x ∈ b, x < 256) ∧ RdN w.heap.size w a b
theorem inB_of {H : Type} {enc : TypeId × Value → H} {W : World} {held : Bool} {fuel : Nat} {a : Option Addr} {len cap : Nat} {d : DataW H} {p : List MemPlace} (hf : DataW.trod enc Tryd.prog W 0 (fun _ => true) held fuel 23 [.slice a len cap] = some (d, p)) : ∃ b, InB W a len cap b := by
  rcases open_ints Tryd.underlying23 Tryd.underlying5 (by kernel_rfl) hf with ⟨hcs, _⟩ | ⟨x, l, c, zs, hcs, _, hl, hm, hz, _, hcell, hwz⟩
  · simp at hcs
    obtain ⟨rfl, rfl, rfl⟩ := hcs
    exact ⟨[], rfl, Nat.le_refl _, Nat.zero_le _, fun x hx => by simp at hx, RdN.nil _ _ _⟩
  · simp at hcs
    obtain ⟨rfl, rfl, rfl⟩ := hcs
    have hz' : zs.length = cap := by simpa using hz
    have hw : ∀ z ∈ zs, 0 ≤ z ∧ z ≤ 255 := fun z hz => by simpa [Lit.wf, IntKind.min, IntKind.max, IntKind.signed, IntKind.bits] using hwz z hz
    refine ⟨(zs.take len).map Int.toNat, by simp; omega, hl, hm, fun y hy => ?_, fun hp => ?_⟩
    · obtain ⟨z, hz, rfl⟩ := List.mem_map.1 hy
      have := hw z (List.mem_of_mem_take hz)
      omega
    · simp at hp
      obtain ⟨b, off, rfl, hcc⟩ := ints_at hcell (by omega)
      refine ⟨b, off, rfl, World.block_lt_of_cell? W _ (hcc 0 (by omega)), fun j y hy => ?_⟩
      rw [List.getElem?_map, List.getElem?_take] at hy
      split at hy
      · rename_i hj
        rw [hcc j (by omega), List.getD_eq_getElem?_getD, List.getElem?_eq_getElem (by omega)]
        rw [List.getElem?_eq_getElem (by omega)] at hy
        simp at hy
        have := hw _ (List.getElem_mem (l := zs) (n := j) (by omega))
        subst hy
        simp
        omega
      · cases hy

theorem sum_abc : sumL [97, 98, 99] = [186, 120, 22, 191, 143, 1, 207, 234, 65, 65, 64, 222, 93, 174, 34, 35, 176, 3, 97, 163, 150, 23, 122, 156, 180, 16, 255, 97, 242, 0, 21, 173] := by decide +kernel
/-- The bytes of a text that the program holds, behind the conversion that marks them. -/
theorem lit_rd (w : World) (b : List Nat) (fr : Nat × Nat) : RdN (w.heap.size + 1) (w.alloc (.cells (u8s b).toArray 5 fr)) (some ⟨w.heap.size, 0, none⟩) b := fun _ =>
  ⟨w.heap.size, 0, rfl, Nat.lt_succ_self _, fun j x hx => by
    rw [Nat.zero_add, Joins.cell_alloc_mark_at w _ 5 fr _ j rfl]
    simpa using u8s_get hx⟩
end Go.Proofs.YtmmocnokgcgmnaaDoor
