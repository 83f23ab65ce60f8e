/-
  BYTES THAT ARE MADE; a number's eight bytes, laid from the last one on.
-/
import Derived.Test.YtmmocnokgcgmnaaDoorHBytes
import Derived.Laws.MakeOwn
namespace Go.Proofs.YtmmocnokgcgmnaaDoor
open Go.RowKit

theorem made_u8 (c : Nat) : madeCells (Value.int .u8 0).cells (c * 1) = (u8s (List.replicate c 0)).toArray := by
  apply Array.ext
  · simp [madeCells, u8s]
  · intro i h1 h2
    simp [madeCells, u8s, Value.cells, Nat.mod_one]
theorem run_make_u8 {P : Program} {t e : TypeId} {i : TypeInfo} (ht : P.underlying t = some (.slice e)) (hi : P.info? e = some i) (hz : i.zero = some (.int .u8 0)) (hs : i.size = 1) (hb : i.bytes = 1) {l c : Nat} (hlc : l ≤ c) (hc : c ≤ 140737488355328) (W : World) :
    (Instr.makeSlice t (.int .i64 l) (.int .i64 c)).run P W = .ok (.slice (some ⟨W.heap.size, 0, none⟩) l c) (W.alloc (.cells (u8s (List.replicate c 0)).toArray e)) := by
  have h := run_make (P := P) W t e i (.int .u8 0) ht hi hz .i64 .i64 l c (by omega) (by omega) (by rw [hb]; omega) (by omega)
  simp only [Int.toNat_natCast, hs] at h
  rw [h, made_u8]

/-- The last so many bytes of a number's eight. -/
def beJ (j v : Nat) : List Nat := List.replicate (8 - j) 0 ++ (be v).drop (8 - j)
theorem beJ_zero (v : Nat) : beJ 0 v = List.replicate 8 0 := by simp [beJ, be]
theorem beJ_len {j : Nat} (_ : j ≤ 8) (v : Nat) : (beJ j v).length = 8 := by simp [beJ, be]; try omega
theorem beJ_step {j : Nat} (hj : j < 8) (v : Nat) : (beJ j v).set (7 - j) (v / 256 ^ j % 256) = beJ (j + 1) v := by
  match j, hj with
  | 0, _ => simp [beJ, be, List.replicate_succ]
  | 1, _ => simp [beJ, be, List.replicate_succ]
  | 2, _ => simp [beJ, be, List.replicate_succ]
  | 3, _ => simp [beJ, be, List.replicate_succ]
  | 4, _ => simp [beJ, be, List.replicate_succ]
  | 5, _ => simp [beJ, be, List.replicate_succ]
  | 6, _ => simp [beJ, be, List.replicate_succ]
  | 7, _ => simp [beJ, be, List.replicate_succ]
theorem beJ_end {j v : Nat} (hj : j ≤ 8) (h : v / 256 ^ j = 0) : beJ j v = be v := by
  have hlt : v < 256 ^ j := (Nat.div_eq_zero_iff.1 h).resolve_left (by have := Nat.pow_pos (n := j) (show 0 < 256 by decide); omega)
  match j, hj with
  | 0, _ => simp at hlt; subst hlt; decide
  | 1, _ => simp at hlt; simp [beJ, be, List.replicate_succ]; omega
  | 2, _ => simp at hlt; simp [beJ, be, List.replicate_succ]; omega
  | 3, _ => simp at hlt; simp [beJ, be, List.replicate_succ]; omega
  | 4, _ => simp at hlt; simp [beJ, be, List.replicate_succ]; omega
  | 5, _ => simp at hlt; simp [beJ, be, List.replicate_succ]; omega
  | 6, _ => simp at hlt; simp [beJ, be, List.replicate_succ]; omega
  | 7, _ => simp at hlt; simp [beJ, be, List.replicate_succ]; omega
  | 8, _ => simp [beJ]
theorem u8s_append (l m : List Nat) : u8s (l ++ m) = u8s l ++ u8s m := by simp [u8s]
theorem u8s_set (l : List Nat) (i n : Nat) : u8s (l.set i n) = (u8s l).set i (.int .u8 n) := by simp [u8s, List.map_set]
theorem u8s_take (l : List Nat) (n : Nat) : (u8s l).take n = u8s (l.take n) := by simp [u8s]
theorem u8s_drop (l : List Nat) (n : Nat) : (u8s l).drop n = u8s (l.drop n) := by simp [u8s]
theorem u8s_mem {l : List Nat} : ∀ v ∈ u8s l, v.oneCell' = true := by
  intro v hv
  obtain ⟨n, _, rfl⟩ := List.mem_map.1 hv
  rfl
/-- A copy of bytes to the head of a block. -/
theorem run_copy_u8 {P : Program} {dT e : TypeId} (hu : P.underlying dT = some (.slice e)) (hs : (P.info? e).map (·.size) = some 1) {W : World} {g dLen dCap sCap n₀ : Nat} {t : TypeId} {old bs : List Nat} {a : Option Addr} (ty : TypeId) (hg : Arr W g t (u8s old)) (hr : RdN n₀ W a bs) (hfit : bs.length ≤ old.length) (hd : bs.length ≤ dLen) :
    ∃ W1, (Builtin.copy_ #[dT, dT] ty #[.slice (some ⟨g, 0, none⟩) dLen dCap, .slice a bs.length sCap]).run P W = .ok (goInt bs.length) W1 ∧ Arr W1 g t (u8s (bs ++ old.drop bs.length)) ∧ Below g W W1 ∧ W1.heap.size = W.heap.size := by
  by_cases h0 : bs = []
  · subst h0
    exact ⟨W, run_copy_none W dT dT ty e _ _ _ _ _ _ hu hs (by simp), by simpa using hg, Below.refl _ _, rfl⟩
  · obtain ⟨b, off, rfl, _, hc⟩ := hr (List.length_pos_iff.2 h0)
    have h := run_copy_row (P := P) W dT dT ty e g 0 dLen dCap ⟨b, off, none⟩ bs.length sCap (u8s old).toArray t (u8s bs) hu hs hg (by rw [u8s_len]; exact (Nat.min_eq_left hd).symm) (fun j v hj => by
      have hj' : (bs[j]?).map (fun n : Nat => Value.int .u8 (n : Int)) = some v := by rw [← hj]; simp [u8s]
      cases hx : bs[j]? with
      | none => rw [hx] at hj'; cases hj'
      | some x =>
        rw [hx] at hj'
        cases hj'
        rw [show (⟨b, off, none⟩ : Addr).add j = ⟨b, off + j, none⟩ by unfold Addr.add; split <;> simp_all]
        exact hc j x hx) (by simp only [List.size_toArray, u8s_len]; omega) u8s_mem
    rw [u8s_len] at h
    refine ⟨_, h, ?_, below_setRow (Below.refl _ _) (Nat.le_refl _) _, by simp [World.setRow]⟩
    have h2 := Arr.row hg (u8s (bs ++ old.drop bs.length))
    have e : (List.take 0 (u8s old).toArray.toList ++ u8s bs ++ List.drop (0 + bs.length) (u8s old).toArray.toList) = u8s (bs ++ old.drop bs.length) := by
      simp [u8s]
    rw [e]
    exact h2
/-- What is behind the bytes in the last part. -/
def padZ (m : Nat) : Nat := (119 - m % 64) % 64
theorem padL_eq (part : List Nat) (n : Nat) : padL part n = part ++ 128 :: List.replicate (padZ part.length) 0 ++ be (8 * n) := by simp [padL, padZ]
end Go.Proofs.YtmmocnokgcgmnaaDoor
