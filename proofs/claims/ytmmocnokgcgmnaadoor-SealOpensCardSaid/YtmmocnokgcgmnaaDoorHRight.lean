/-
  A WORD TURNED RIGHT: the program's and the document's; rows of words, blocks of cells, the tables in memory.
-/
import Derived.Test.YtmmocnokgcgmnaaDoorHMath
import Derived.BigQuiet
import Derived.Laws.BitsAllLaws
import Derived.Deep.MidRow
import Derived.Laws.CopyOwn
namespace Go.Proofs.YtmmocnokgcgmnaaDoor
open Go.RowKit

def u32s (l : List Nat) : List Value := l.map fun n : Nat => Value.int .u32 (n : Int)
def u8s (l : List Nat) : List Value := l.map fun n : Nat => Value.int .u8 (n : Int)
theorem u32s_len (l : List Nat) : (u32s l).length = l.length := by simp [u32s]
theorem u8s_len (l : List Nat) : (u8s l).length = l.length := by simp [u8s]
theorem u32s_one (l : List Nat) : (u32s l).toArray.all (·.oneCell') = true := by simp [u32s, Value.oneCell']
theorem u8s_one (l : List Nat) : (u8s l).toArray.all (·.oneCell') = true := by simp [u8s, Value.oneCell']
theorem u32s_get {l : List Nat} {i n : Nat} (h : l[i]? = some n) : (u32s l)[i]? = some (.int .u32 n) := by simp [u32s, h]
theorem u8s_get {l : List Nat} {i n : Nat} (h : l[i]? = some n) : (u8s l)[i]? = some (.int .u8 n) := by simp [u8s, h]

/-- A block of cells. -/
def Arr (W : World) (g : Nat) (t : TypeId) (vs : List Value) : Prop := W.heap[g]? = some (.cells vs.toArray t (0, 0))
theorem Arr.lt {W : World} {g : Nat} {t : TypeId} {vs : List Value} (h : Arr W g t vs) : g < W.heap.size := (Array.getElem?_eq_some_iff.1 h).1
theorem Arr.cell {W : World} {g : Nat} {t : TypeId} {vs : List Value} (h : Arr W g t vs) (i : Nat) : W.cell? ⟨g, i, none⟩ = vs[i]? := by
  have := cell_of_row W g i vs.toArray t (0, 0) h
  simpa using this
theorem Arr.frozen {W : World} {g : Nat} {t : TypeId} {vs : List Value} (h : Arr W g t vs) (i : Nat) : W.frozen? ⟨g, i, none⟩ = false := by
  unfold Arr at h
  simp [World.frozen?, h]
theorem Arr.new (W : World) (t : TypeId) (vs : List Value) : Arr (W.alloc (.cells vs.toArray t)) W.heap.size t vs := heap_alloc_new W _
theorem Arr.below {W W' : World} {g n₀ : Nat} {t : TypeId} {vs : List Value} (h : Arr W g t vs) (hb : Below n₀ W W') (hg : g < n₀) : Arr W' g t vs := (hb.block g hg).trans h
theorem Arr.alloc {W : World} {g : Nat} {t : TypeId} {vs : List Value} (h : Arr W g t vs) (o : Obj) : Arr (W.alloc o) g t vs := h.below ((Below.refl _ _).alloc (Nat.le_refl _) o) h.lt
theorem Arr.drewN {W : World} {g : Nat} {t : TypeId} {vs : List Value} (h : Arr W g t vs) (n : Nat) : Arr (W.drewN n) g t vs := h
theorem Arr.set {W : World} {g : Nat} {t : TypeId} {vs : List Value} (h : Arr W g t vs) (i : Nat) (v : Value) : Arr (W.setCell ⟨g, i, none⟩ v) g t (vs.set i v) := by
  unfold Arr at h ⊢
  simp [World.setCell, Array.getElem?_modify, h]
theorem Arr.other {W : World} {g g' : Nat} {t : TypeId} {vs : List Value} (h : Arr W g t vs) (hne : g ≠ g') (i : Nat) (v : Value) : Arr (W.setCell ⟨g', i, none⟩ v) g t vs := by
  unfold Arr at h ⊢
  simp [World.setCell, Array.getElem?_modify, h, Ne.symm hne]
theorem Arr.row {W : World} {g : Nat} {t : TypeId} {vs : List Value} (h : Arr W g t vs) (us : List Value) : Arr (W.setRow g us.toArray) g t us := by
  unfold Arr at h ⊢
  simp [World.setRow, Array.getElem?_modify, h]
theorem set_step {α : Type} {A B : List α} {k : Nat} {x : α} (hl : A.length = B.length) (hx : A[k]? = some x) : (A.take k ++ B.drop k).set k x = A.take (k + 1) ++ B.drop (k + 1) := by
  have hk : k < A.length := (List.getElem?_eq_some_iff.1 hx).1
  apply List.ext_getElem?
  intro i
  rw [List.getElem?_set]
  by_cases hi : k = i
  · subst hi
    rw [if_pos rfl, if_pos (by simp; omega), List.getElem?_append_left (by simp; omega), List.getElem?_take, if_pos (by omega), hx]
  · rw [if_neg hi]
    by_cases hi2 : i < k
    · rw [List.getElem?_append_left (by simp; omega), List.getElem?_append_left (by simp; omega), List.getElem?_take, List.getElem?_take, if_pos hi2, if_pos (by omega)]
    · rw [List.getElem?_append_right (by simp; omega), List.getElem?_append_right (by simp; omega), List.getElem?_drop, List.getElem?_drop]
      congr 1
      simp
      omega

/-- The two tables lie where the program has them. -/
def Tabs (w : World) : Prop := w.rangeAt 0 0 (u32s beginH.list) ∧ w.rangeAt 1 0 (u32s tabK)
theorem Tabs.pos {w : World} (h : Tabs w) : 1 < w.heap.size := by
  have h0 := h.2 0 (.int .u32 (1116352408 : Nat)) (u32s_get (l := tabK) (i := 0) (n := 1116352408) (by rfl))
  rcases Nat.lt_or_ge 1 w.heap.size with e | e
  · exact e
  · unfold World.cell? at h0
    simp [Array.getElem?_eq_none e] at h0
theorem Tabs.below {w w' : World} {n : Nat} (h : Tabs w) (hb : Below n w w') (hn : 1 < n) : Tabs w' :=
  ⟨fun j v hv => (hb.cell (p := ⟨0, 0 + j, none⟩) (show 0 < n by omega)).trans (h.1 j v hv), fun j v hv => (hb.cell (p := ⟨1, 0 + j, none⟩) (show 1 < n by omega)).trans (h.2 j v hv)⟩
theorem Tabs.k {w : World} (h : Tabs w) {i n : Nat} (hn : tabK[i]? = some n) : w.cell? ⟨1, i, none⟩ = some (.int .u32 n) := by
  have := h.2 i (.int .u32 n) (u32s_get hn)
  rwa [Nat.zero_add] at this

theorem rot_raw {x : Nat} (h1 : x < 4294967296) (n : Nat) : bits .or .u32 ((x : Int) / 2 ^ n) ((x : Int) * 2 ^ (32 - n) % 4294967296) = (rot x n : Nat) := by
  have h2 := u32_or_nat (x / 2 ^ n) (x * 2 ^ (32 - n) % 4294967296) (Nat.lt_of_le_of_lt (Nat.div_le_self _ _) h1) (Nat.mod_lt _ (by decide))
  have e1 : ((x / 2 ^ n : Nat) : Int) = (x : Int) / 2 ^ n := by rw [Int.natCast_ediv, Int.natCast_pow]; rfl
  have e2 : ((x * 2 ^ (32 - n) % 4294967296 : Nat) : Int) = (x : Int) * 2 ^ (32 - n) % 4294967296 := by rw [Int.natCast_emod, Int.natCast_mul, Int.natCast_pow]; rfl
  rw [e1, e2] at h2
  exact h2

set_option maxHeartbeats 800000 in
set_option maxRecDepth 100000 in
theorem right_any (x n : Nat) (h1 : x < 4294967296) (hn : n ≤ 32) (w : World) :
    Calls Tryd.prog 41 #[.int .u32 x, .int .i64 n] w fun e w' => e = .returned (.int .u32 (rot x n)) ∧ ∃ m, w' = w.drewN m := by
  go_enter Tryd.func41, Tryd.ntmps41
  go_wp2
  go_quiet (fail)
  all_goals go_wp2
  all_goals go_ret
  rw [rot_raw h1]
  exact ⟨rfl, _, rfl⟩

set_option maxHeartbeats 800000 in
set_option maxRecDepth 100000 in
theorem rright_any (x n : Nat) (h1 : x < 4294967296) (hn : n ≤ 32) (w : World) :
    Calls Tryd.prog 44 #[.int .u32 x, .int .i64 n] w fun e w' => e = .returned (.int .u32 (rot x n)) ∧ ∃ m, w' = w.drewN m := by
  go_enter Tryd.func44, Tryd.ntmps44
  go_wp2
  go_quiet (fail)
  all_goals go_wp2
  all_goals go_ret
  rw [rot_raw h1]
  exact ⟨rfl, _, rfl⟩
end Go.Proofs.YtmmocnokgcgmnaaDoor
