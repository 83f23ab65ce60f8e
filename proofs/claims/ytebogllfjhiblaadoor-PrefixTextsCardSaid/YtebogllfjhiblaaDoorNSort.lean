/-
  PREFIXES: the library's insertion sort over a row of one's own, with a closure that makes memory.
-/
import Derived.Test.YtebogllfjhiblaaDoorNLess
import Derived.Sort.WalkA
namespace Go.Proofs.YtebogllfjhiblaaDoor
set_option linter.unusedVariables false
open Go.RowKit Go.Sort
theorem rowP_set {l : List (Nat × Int)} {i : Nat} {p : Nat × Int} (hi : i < l.length) : ((rowP l).set (i * 2) (.int .u32 p.1)).set (i * 2 + 1) (.int .i64 p.2) = rowP (l.set i p) := by
  induction l generalizing i with
  | nil => simp at hi
  | cons q l ih =>
    have e : ∀ (r : Nat × Int) (m : List (Nat × Int)), rowP (r :: m) = .int .u32 r.1 :: .int .i64 r.2 :: rowP m := fun _ _ => rfl
    match i, hi with
    | 0, _ => rw [e]; simp [e]
    | i + 1, hi =>
      rw [e, show (i + 1) * 2 = i * 2 + 1 + 1 by omega, List.set_cons_succ, List.set_cons_succ, List.set_cons_succ, List.set_cons_succ, ih (by simpa using hi), List.set_cons_succ, e]
theorem OwnP.put {W : World} {base g c n : Nat} {l : List (Nat × Int)} (h : OwnP W base (.slice (some ⟨g, 0, none⟩) n c) l) (hn : l.length = n) {i : Nat} (hi : i < l.length) (p : Nat × Int) :
    OwnP (W.setCells g (i * 2) (cellsP p)) base (.slice (some ⟨g, 0, none⟩) n c) (l.set i p) ∧ W.grownBy (W.setCells g (i * 2) (cellsP p)) (some g) := by
  subst hn
  have h1 := World.ownsRow.stored h (i * 2) (.int .u32 p.1)
  have h2 := World.ownsRow.stored h1.1 (i * 2 + 1) (.int .i64 p.2)
  rw [rowP_set hi] at h2
  refine ⟨?_, h1.2.os ▸ h2.2.os.trans h1.2.os |> fun e => ⟨e, h2.2.tape.trans h1.2.tape, h2.2.output.trans h1.2.output, Nat.le_trans h1.2.size h2.2.size, fun k hk hne => (h2.2.block k (Nat.lt_of_lt_of_le hk h1.2.size) hne).trans (h1.2.block k hk hne)⟩⟩
  unfold OwnP
  rw [List.length_set]
  exact h2.1
/-- A block is as it was. -/
def Bk (W : World) (k : Nat) (o : Obj) : Prop := W.heap[k]? = some o
theorem Bk.lt {W : World} {k : Nat} {o : Obj} (h : Bk W k o) : k < W.heap.size := (Array.getElem?_eq_some_iff.1 h).1
theorem Bk.keep {B : Nat} {W W' : World} {k : Nat} {o : Obj} (h : Bk W k o) (hb : Go.RowKit.Below B W W') (hk : k < B) : Bk W' k o := by
  unfold Bk at h ⊢
  rw [hb.block k hk, h]
theorem Bk.grown {W W' : World} {k : Nat} {o : Obj} {r : Option Nat} (h : Bk W k o) (hg : W.grownBy W' r) (hr : some k ≠ r) : Bk W' k o := by
  have hl := h.lt
  unfold Bk at h ⊢
  rw [hg.block k hl hr, h]
theorem Bk.two {W : World} {k : Nat} {T : TypeId} {a b : Value} (h : Bk W k (.cells #[a, b] T (0, 0))) : W.cell? ⟨k, 0, none⟩ = some a ∧ W.cell? ⟨k, 1, none⟩ = some b := by
  unfold Bk at h
  simp [World.cell?, h]
theorem grownBy_below {W w1 w2 : World} {r : Option Nat} (h : W.grownBy w1 r) (hb : Go.RowKit.Below w1.heap.size w1 w2) : W.grownBy w2 r :=
  ⟨hb.os.trans h.os, hb.tape.trans h.tape, hb.output.trans h.output, Nat.le_trans h.size hb.size, fun k hk hne => (hb.block k (Nat.lt_of_lt_of_le hk h.size)).trans (h.block k hk hne)⟩
theorem grownBy_trans {W w1 w2 : World} {r : Option Nat} (h : W.grownBy w1 r) (h2 : w1.grownBy w2 r) : W.grownBy w2 r :=
  ⟨h2.os.trans h.os, h2.tape.trans h.tape, h2.output.trans h.output, Nat.le_trans h.size h2.size, fun k hk hne => (h2.block k (Nat.lt_of_lt_of_le hk h.size) hne).trans (h.block k hk hne)⟩
/-- Where a sort stands: the row, the boxed slice, all else. -/
structure Srt (w0 : World) (base g c n Bs : Nat) (d : Array (Nat × Int)) (wr : World) : Prop where
  size : d.size = n
  own : OwnP wr base (.slice (some ⟨g, 0, none⟩) n c) d.toList
  box : Bx1 wr Bs 37 (.slice (some ⟨g, 0, none⟩) n c)
  ne : Bs ≠ g
  grow : w0.grownBy wr (some g)
theorem Srt.step {w0 : World} {base g c n Bs : Nat} {d : Array (Nat × Int)} {wr w1 : World} (h : Srt w0 base g c n Bs d wr) (hb : Go.RowKit.Below wr.heap.size wr w1) : Srt w0 base g c n Bs d w1 :=
  ⟨h.size, h.own.below hb (Nat.le_refl _), h.box.keep hb h.box.lt, h.ne, grownBy_below h.grow hb⟩
theorem getBang {d : Array (Nat × Int)} {i : Nat} (hi : i < d.size) : d.toList[i]? = some d[i]! := by simp [hi]
theorem swp_list {d : Array (Nat × Int)} {i j : Nat} (hi : i < d.size) (hj : j < d.size) : (d.toList.set i d[j]!).set j d[i]! = (swp d i j).toList := by
  unfold swp
  rw [Array.toList_setIfInBounds, Array.toList_setIfInBounds]
theorem Srt.swap {w0 : World} {base g c n Bs : Nat} {d : Array (Nat × Int)} {wr : World} (h : Srt w0 base g c n Bs d wr) {i j : Nat} (hi : i < n) (hj : j < n) :
    Srt w0 base g c n Bs (swp d i j) ((wr.setCells g (0 + i * 2) (cellsP d[j]!)).setCells g (0 + j * 2) (cellsP d[i]!)) ∧ wr.grownBy ((wr.setCells g (0 + i * 2) (cellsP d[j]!)).setCells g (0 + j * 2) (cellsP d[i]!)) (some g) := by
  have hs := h.size
  rw [Nat.zero_add, Nat.zero_add]
  have h1 := h.own.put (by simpa using hs) (i := i) (by simp; omega) d[j]!
  have h2 := h1.1.put (by simpa using hs) (i := j) (by simp; omega) d[i]!
  rw [swp_list (by omega) (by omega)] at h2
  have hg := grownBy_trans h1.2 h2.2
  exact ⟨⟨by rw [size_swp]; exact hs, h2.1, h.box.grown hg (fun e => h.ne (by injection e)), h.ne, grownBy_trans h.grow hg⟩, hg⟩
theorem Srt.holds {w0 : World} {base g c n Bs : Nat} {d : Array (Nat × Int)} {wr : World} (h : Srt w0 base g c n Bs d wr) : HoldsK cellsP 2 wr g 0 d := by
  intro t ht
  have hs := h.size
  have ht' : t < d.size * 2 := by simpa using ht
  have e := get_flatK cellsP 2 d t ht'
  have hi : t / 2 < d.size := by omega
  have hc := h.own.cell (getBang hi)
  have hf : wr.frozen? ⟨g, t, none⟩ = false := by
    have := h.own
    unfold OwnP at this
    rw [show d.toList.length = n by simpa using hs] at this
    exact World.ownsRow.frozenAt this t
  rw [Nat.zero_add, e]
  refine ⟨?_, hf⟩
  have h2 : t % 2 = 0 ∨ t % 2 = 1 := by omega
  rcases h2 with h2 | h2
  · rw [h2, show t = t / 2 * 2 by omega]
    rw [show t / 2 * 2 / 2 = t / 2 by omega]
    exact hc.1
  · rw [h2, show t = t / 2 * 2 + 1 by omega]
    rw [show (t / 2 * 2 + 1) / 2 = t / 2 by omega]
    exact hc.2
noncomputable def infoS : TypeInfo := (Tryd.prog.info? 37).get (by kernel_rfl)
noncomputable def infoE : TypeInfo := (Tryd.prog.info? 24).get (by kernel_rfl)
theorem swapperE (n : Nat) (h2 : 2 ≤ n) : Lib.swapperK n infoE 25 = 9 := by
  have a : infoE.hasPointers = false := by kernel_rfl
  have b : infoE.bytes = 16 := by kernel_rfl
  have c : (n == 0) = false := by simp; omega
  have d : (n == 1) = false := by simp; omega
  simp [Lib.swapperK, a, b, c, d]
theorem swap_run (g c n : Nat) : SwapSwapsK Tryd.prog 79 #[.slice (some ⟨g, 0, none⟩) n c, typeHandle Tryd.prog 24] cellsP 2 g 0 n :=
  swapSwapsK_of_literal false 79 (fun args W => run_callFunc_extern Tryd.func79 (by kernel_rfl) (by kernel_rfl) (by kernel_rfl) (e := Extern.ReflectliteSwapper.swap false) (by kernel_rfl) args W)
    24 infoE (by kernel_rfl) cellsP 2 (fun _ => rfl) (by kernel_rfl) (fun _ => by kernel_rfl) (fun x v hv => by simp [cellsP] at hv; rcases hv with rfl | rfl <;> rfl) g 0 n c
end Go.Proofs.YtebogllfjhiblaaDoor
