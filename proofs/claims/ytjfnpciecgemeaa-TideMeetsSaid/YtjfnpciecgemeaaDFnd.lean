/-
  THE PROGRAM'S find.
-/
import Derived.Test.YtjfnpciecgemeaaDBs
namespace Go.Proofs.Ytjfnpciecgemeaa.ti
set_option linter.unusedSimpArgs false
set_option linter.unusedVariables false
open Go.RowKit
def FindE (l : List THd) (i : TId) (w : World) (e : Ending) (w' : World) : Prop := e = .returned (.tuple #[.agg #[.int .i64 ((findT l i).getD zeroH).id.d, .int .i64 ((findT l i).getD zeroH).id.o, .int .i64 ((findT l i).getD zeroH).id.k, .int .i64 ((findT l i).getD zeroH).id.n, .int .i64 ((findT l i).getD zeroH).seq, .int .i64 ((findT l i).getD zeroH).life], .bool (findT l i).isSome]) ∧ Below w.heap.size w w'
set_option maxHeartbeats 6400000 in
set_option maxRecDepth 100000 in
theorem find_any (l : List THd) (i : TId) (a : Option Addr) (c : Nat) (w : World) (ha : RdT w a l) (hA : AscT l) (hl : l.length ≤ 1000000) (hc : l.length ≤ c) :
    Calls Try.prog 32 #[.slice a l.length c, .agg #[.int .i64 i.d, .int .i64 i.o, .int .i64 i.k, .int .i64 i.n]] w (FindE l i w) := by
  unfold FindE
  obtain ⟨len, hlen⟩ : ∃ len, l.length = len := ⟨_, rfl⟩
  have HBS : Hid (∀ W, Below w.heap.size w W → Calls Try.prog 43 #[.slice a len c, .agg #[.int .i64 i.d, .int .i64 i.o, .int .i64 i.k, .int .i64 i.n], .func (.func 44) #[] #[]] W fun e w' => (∃ k : Nat, e = .returned (.tuple #[.int .i64 k, .bool (findT l i).isSome]) ∧ ∀ x, findT l i = some x → l[k]? = some x) ∧ Below W.heap.size W w') := fun W hb => by
    rw [← hlen]
    exact bsearch_any l i a c W (ha.below hb) hA hl hc
  rw [hlen] at hl hc ⊢
  have HL := Lib.hid hlen
  have HA := Lib.hid ha
  have HB0 : Hid (Below w.heap.size w ((w.alloc (.cells #[.int .i64 i.d, .int .i64 i.o, .int .i64 i.k, .int .i64 i.n] 24)).alloc (.cells #[.int .i64 0, .int .i64 0, .int .i64 0, .int .i64 0, .int .i64 0, .int .i64 0] 34))) := ((Below.refl w.heap.size w).alloc (Nat.le_refl _) _).alloc (by simp) _
  have Z0 : Hid (((w.alloc (.cells #[.int .i64 i.d, .int .i64 i.o, .int .i64 i.k, .int .i64 i.n] 24)).alloc (.cells #[.int .i64 0, .int .i64 0, .int .i64 0, .int .i64 0, .int .i64 0, .int .i64 0] 34)).heap[w.heap.size + 1]? = some (.cells [.int .i64 0, .int .i64 0, .int .i64 0, .int .i64 0, .int .i64 0, .int .i64 0].toArray 34 (0, 0))) := by have := heap_alloc_new (w.alloc (.cells #[.int .i64 i.d, .int .i64 i.o, .int .i64 i.k, .int .i64 i.n] 24)) (.cells #[.int .i64 0, .int .i64 0, .int .i64 0, .int .i64 0, .int .i64 0, .int .i64 0] 34); unfold Hid; simpa using this
  clear ha hA hlen
  cases hf : findT l i with
  | none =>
    rw [hf] at HBS
    have HF := Lib.hid hf
    simp only [Option.isSome_none, Option.getD_none] at HBS ⊢
    clear hf
    go_enter Try.func32, Try.ntmps32
    go_wp2_with (first
      | (go_at_call 43; refine (HBS.out _ HB0.out).mono ?_; rintro e w1 ⟨⟨k, rfl, _⟩, hb⟩; have ZA := Lib.hid ((hb.block _ (Array.getElem?_eq_some_iff.1 Z0.out).1).trans Z0.out); have z0 : w1.cell? ⟨w.heap.size + 1, 0, none⟩ = some (.int .i64 0) := (by simp [World.cell?, ZA.out]); have z1 : w1.cell? ⟨w.heap.size + 1, 1, none⟩ = some (.int .i64 0) := (by simp [World.cell?, ZA.out]); have z2 : w1.cell? ⟨w.heap.size + 1, 2, none⟩ = some (.int .i64 0) := (by simp [World.cell?, ZA.out]); have z3 : w1.cell? ⟨w.heap.size + 1, 3, none⟩ = some (.int .i64 0) := (by simp [World.cell?, ZA.out]); have z4 : w1.cell? ⟨w.heap.size + 1, 4, none⟩ = some (.int .i64 0) := (by simp [World.cell?, ZA.out]); have z5 : w1.cell? ⟨w.heap.size + 1, 5, none⟩ = some (.int .i64 0) := (by simp [World.cell?, ZA.out]); have zf : ∀ j, w1.frozen? ⟨w.heap.size + 1, j, none⟩ = false := (fun j => by simp [World.frozen?, ZA.out]); have BB := Lib.hid (HB0.out.trans (hb.mono HB0.out.size)); clear hb))
    have q := range_list (heap_set_list (j := 5) (v := .int .i64 0) (heap_set_list (j := 4) (v := .int .i64 0) (heap_set_list (j := 3) (v := .int .i64 0) (heap_set_list (j := 2) (v := .int .i64 0) (heap_set_list (j := 1) (v := .int .i64 0) (heap_set_list (j := 0) (v := .int .i64 0) ZA.out))))))
    simp only [List.set_cons_zero, List.set_cons_succ] at q
    refine bodyPost_ret (results_row2 (cs := [.int .i64 0, .int .i64 0, .int .i64 0, .int .i64 0, .int .i64 0, .int .i64 0]) rfl rfl q Try.underlying34 rfl (by kernel_rfl)) rfl ?_
    exact ⟨rfl, (Below.setCell (Below.setCell (Below.setCell (Below.setCell (Below.setCell (Below.setCell BB.out (p := ⟨w.heap.size + 1, 0, none⟩) (Nat.le_succ _) _) (p := ⟨w.heap.size + 1, 1, none⟩) (Nat.le_succ _) _) (p := ⟨w.heap.size + 1, 2, none⟩) (Nat.le_succ _) _) (p := ⟨w.heap.size + 1, 3, none⟩) (Nat.le_succ _) _) (p := ⟨w.heap.size + 1, 4, none⟩) (Nat.le_succ _) _) (p := ⟨w.heap.size + 1, 5, none⟩) (Nat.le_succ _) _)⟩
  | some x =>
    rw [hf] at HBS
    have HF := Lib.hid hf
    simp only [Option.isSome_some, Option.getD_some] at HBS ⊢
    clear hf
    go_enter Try.func32, Try.ntmps32
    go_wp2_with (first
      | (go_at_call 43; refine (HBS.out _ HB0.out).mono ?_; rintro e w1 ⟨⟨k, rfl, hk⟩, hb⟩; have ZA := Lib.hid ((hb.block _ (Array.getElem?_eq_some_iff.1 Z0.out).1).trans Z0.out); have z0 : w1.cell? ⟨w.heap.size + 1, 0, none⟩ = some (.int .i64 0) := (by simp [World.cell?, ZA.out]); have z1 : w1.cell? ⟨w.heap.size + 1, 1, none⟩ = some (.int .i64 0) := (by simp [World.cell?, ZA.out]); have z2 : w1.cell? ⟨w.heap.size + 1, 2, none⟩ = some (.int .i64 0) := (by simp [World.cell?, ZA.out]); have z3 : w1.cell? ⟨w.heap.size + 1, 3, none⟩ = some (.int .i64 0) := (by simp [World.cell?, ZA.out]); have z4 : w1.cell? ⟨w.heap.size + 1, 4, none⟩ = some (.int .i64 0) := (by simp [World.cell?, ZA.out]); have z5 : w1.cell? ⟨w.heap.size + 1, 5, none⟩ = some (.int .i64 0) := (by simp [World.cell?, ZA.out]); have zf : ∀ j, w1.frozen? ⟨w.heap.size + 1, j, none⟩ = false := (fun j => by simp [World.frozen?, ZA.out]); have hkx := hk x rfl; have k1 : (k : Int) < (len : Int) := (by have := (List.getElem?_eq_some_iff.1 hkx).1; have := HL.out; omega); have k0 : (0 : Int) ≤ (k : Int) := Int.natCast_nonneg _; obtain ⟨g, o, rfl, hg1, hr, -⟩ := (HA.out.below (HB0.out.trans (hb.mono HB0.out.size))).at hkx; have x0 := mid_cell0 hr rfl; have x1 := mid_cell hr 1 rfl; have x2 := mid_cell hr 2 rfl; have x3 := mid_cell hr 3 rfl; have x4 := mid_cell hr 4 rfl; have x5 := mid_cell hr 5 rfl; have BB := Lib.hid (HB0.out.trans (hb.mono HB0.out.size)); clear hb hr hk hkx))
    have q := range_list (heap_set_list (j := 5) (v := .int .i64 x.life) (heap_set_list (j := 4) (v := .int .i64 x.seq) (heap_set_list (j := 3) (v := .int .i64 x.id.n) (heap_set_list (j := 2) (v := .int .i64 x.id.k) (heap_set_list (j := 1) (v := .int .i64 x.id.o) (heap_set_list (j := 0) (v := .int .i64 x.id.d) ZA.out))))))
    simp only [List.set_cons_zero, List.set_cons_succ] at q
    refine bodyPost_ret (results_row2 (cs := [.int .i64 x.id.d, .int .i64 x.id.o, .int .i64 x.id.k, .int .i64 x.id.n, .int .i64 x.seq, .int .i64 x.life]) rfl rfl q Try.underlying34 rfl (by kernel_rfl)) rfl ?_
    exact ⟨rfl, (Below.setCell (Below.setCell (Below.setCell (Below.setCell (Below.setCell (Below.setCell BB.out (p := ⟨w.heap.size + 1, 0, none⟩) (Nat.le_succ _) _) (p := ⟨w.heap.size + 1, 1, none⟩) (Nat.le_succ _) _) (p := ⟨w.heap.size + 1, 2, none⟩) (Nat.le_succ _) _) (p := ⟨w.heap.size + 1, 3, none⟩) (Nat.le_succ _) _) (p := ⟨w.heap.size + 1, 4, none⟩) (Nat.le_succ _) _) (p := ⟨w.heap.size + 1, 5, none⟩) (Nat.le_succ _) _)⟩
end Go.Proofs.Ytjfnpciecgemeaa.ti
