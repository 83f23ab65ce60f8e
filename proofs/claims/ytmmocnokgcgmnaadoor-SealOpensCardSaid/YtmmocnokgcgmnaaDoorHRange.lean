/-
  A RANGE OVER A FUNCTION THAT HANDS OUT WHAT IT HAS JUST MADE: what a round may read is a guard on the world of the yield; each round goes on.
-/
import Derived.Test.YtmmocnokgcgmnaaDoorHMake
import Derived.RangeFuncWrites
namespace Go.Proofs.YtmmocnokgcgmnaaDoor
open Go.RowKit Go.Shelf

/-- What a round leaves as it was: all cells but those of block B. -/
def KeepB (B : Nat) (W W' : World) : Prop := W.heap.size ≤ W'.heap.size ∧ ∀ (k : Nat) (cs : Array Value) (t : TypeId) (fr : Nat × Nat), k ≠ B → W.heap[k]? = some (.cells cs t fr) → W'.heap[k]? = some (.cells cs t fr)
theorem KeepB.refl (B : Nat) (W : World) : KeepB B W W := ⟨Nat.le_refl _, fun _ _ _ _ _ h => h⟩
theorem KeepB.trans {B : Nat} {X Y Z : World} (h : KeepB B X Y) (k : KeepB B Y Z) : KeepB B X Z := ⟨Nat.le_trans h.1 k.1, fun i cs t fr hi hc => k.2 i cs t fr hi (h.2 i cs t fr hi hc)⟩
theorem KeepB.below {B : Nat} {X Y : World} (h : Below X.heap.size X Y) : KeepB B X Y := ⟨h.size, fun i _ _ _ _ hc => (h.block i (Array.getElem?_eq_some_iff.1 hc).1).trans hc⟩
theorem KeepB.putObj (B : Nat) {X : World} {l : Nat} {o : Obj} (o' : Obj) (hl : X.heap[l]? = some o) (ho : o.isCells = false) : KeepB B X (X.putObj l o') := by
  refine ⟨by simp [World.putObj], fun i cs t fr _ hc => ?_⟩
  have hne : i ≠ l := by rintro rfl; rw [hl] at hc; cases hc; simp [Obj.isCells] at ho
  exact (World.putObj_heap_other hne).trans hc
theorem Arr.keepB {B : Nat} {X Y : World} (h : KeepB B X Y) {g : Nat} {t : TypeId} {vs : List Value} (ha : Arr X g t vs) (hg : g ≠ B) : Arr Y g t vs := h.2 g _ _ _ hg ha
theorem cell_keepB {B : Nat} {X Y : World} (h : KeepB B X Y) {b i : Nat} {v : Value} (hc : X.cell? ⟨b, i, none⟩ = some v) (hb : b ≠ B) : Y.cell? ⟨b, i, none⟩ = some v := by
  unfold World.cell? at hc ⊢
  simp only at hc ⊢
  cases hq : X.heap[b]? with
  | none => simp [hq] at hc
  | some o =>
    cases o with
    | cells cs t fr => rw [h.2 b cs t fr hb hq]; rw [hq] at hc; exact hc
    | _ => simp [hq] at hc

/-- A yielded block: where it lies and what its bytes are. -/
structure Blk where
  b : Nat
  off : Nat
  cap : Nat
  bytes : List Nat
  len : bytes.length = 64
  lt : ∀ x ∈ bytes, x < 256
def Blk.enc (x : Blk) : Array Value := #[.slice (some ⟨x.b, x.off, none⟩) 64 x.cap]
/-- The guard: it lies there, in a block that is not B. -/
def Blk.there (B : Nat) (x : Blk) (W : World) : Prop := x.b ≠ B ∧ x.b < W.heap.size ∧ ∀ (j y : Nat), x.bytes[j]? = some y → W.cell? ⟨x.b, x.off + j, none⟩ = some (.int .u8 y)
theorem Blk.there.keep {B : Nat} {x : Blk} {X Y : World} (h : x.there B X) (k : KeepB B X Y) : x.there B Y :=
  ⟨h.1, Nat.lt_of_lt_of_le h.2.1 k.1, fun j y hy => cell_keepB k (h.2.2 j y hy) h.1⟩
theorem Blk.there.rd {B : Nat} {x : Blk} {W : World} (h : x.there B W) : RdN W.heap.size W (some ⟨x.b, x.off, none⟩) x.bytes := fun _ => ⟨x.b, x.off, rfl, h.2.1, fun j y hy => h.2.2 j y hy⟩

/-- WHAT THE ITERATOR OWES: whatever the rounds keep, it hands out blocks that lie there, and returns. -/
def Hands (F : Fence) (n : Nat) (P : Program) (g : Nat) (lb : Array Value) (B : Nat) (S : List Blk → Prop) (w : World) : Prop :=
  ∀ (l : Nat) (J : List Blk → World → Prop) (W : World), Below w.heap.size w W → AbidesFrom W.heap.size J →
    (∀ pre x W1, J pre W1 → x.there B W1 → YieldAt F (n - 1) P l x.enc W1 fun e W' => e = .returned (.bool true) ∧ J (pre ++ [x]) W' ∧ KeepB B W1 W') →
    J [] W → CallsIn F n P g (#[.func (.yield l) #[] #[]] ++ lb) W fun e W' => (∃ v, e = .returned v) ∧ ∃ xs, S xs ∧ J xs W'

theorem wpIn_range_hands {F : Fence} {n : Nat} {P : Program} {g : Operand} {ps : Array Tmp} {assign body : Code} {Q : Exit → Act → World → Prop} {a : Act} {w : World}
    (hro : F.round = none) (h1 : 1 ≤ n) {gf : Nat} {lb : Array Value} (hg : a.eval g = .func (.func gf) #[] lb) (hFg : F.fn gf) (eg : ∀ args w, (callFunc gf args).run P w = .ok (.enter gf args) w)
    {B : Nat} {S : List Blk → Prop} (hseq : Hands F (n - 1) P gf lb B S w) (hps : ps.size = 1)
    (I : List Blk → World → Prop) (hI : OwnFrom w.heap.size I) (h0 : I [] w) (a₁ : Blk → Act)
    (hassign : ∀ (l : Nat) (x : Blk) (W : World) (K : Act → World → Prop), K (a₁ x) W →
      assign.wpIn (F.inRound l) (n - 1 - 1) P (Exit.then K (fun _ _ _ => False)) { tmps := (ps.zip x.enc).foldl (fun t (p, v) => t.setIfInBounds p v) a.tmps, defers := [] } W)
    (hbody : ∀ (l : Nat) (pre : List Blk) (x : Blk) (W : World), I pre W → x.there B W → body.wpIn (F.inRound l) (n - 1 - 1) P (ownPostG w.heap.size (KeepB B) I (fun _ _ _ => False) (pre ++ [x]) W) (a₁ x) W)
    (hdone : ∀ (D : Nat) (xs : List Blk) (W : World), w.heap.size ≤ D → S xs → I xs W → W.heap[D]? = some (.deferred (some [])) → Q .normal { a with defers := { target := .collected D, args := #[] } :: a.defers } W) :
    (Code.rangeFunc g ps assign body).wpIn F n P Q a w := by
  refine wpIn_rangeFunc ?_
  intro fn hfn
  rw [hro]
  have hrec : ∃ rec : LoopState → Option Code → Loop, rec = fun st pe => { state := st, pending := pe, fn, tmps := a.tmps, params := ps, assign, body, defers := w.heap.size } := ⟨_, rfl⟩
  obtain ⟨rec, hrec⟩ := hrec
  have hWL : ∃ WL, (w.alloc (.deferred (some []))).alloc (.loop (rec .ready none)) = WL := ⟨_, rfl⟩
  obtain ⟨WL, hWL⟩ := hWL
  have bel : Below w.heap.size w WL := by rw [← hWL]; exact ((Below.refl _ w).alloc (Nat.le_refl _) _).alloc (by simp) _
  have hD : WL.heap[w.heap.size]? = some (.deferred (some [])) := by
    rw [← hWL]; exact (Below.heap_alloc _ _ _ (by simp)).trans (World.alloc_heap_new w _)
  have hL : WL.heap[w.heap.size + 1]? = some (.loop (rec .ready none)) := by
    rw [← hWL]; simpa using World.alloc_heap_new (w.alloc (.deferred (some []))) (.loop (rec .ready none))
  have hIL : I [] WL := by rw [← hWL]; exact hI.alloc _ (hI.alloc _ h0)
  refine ⟨w.heap.size + 1, [{ target := .collected w.heap.size, args := #[] }], WL, { target := .fn (.func gf) lb, args := #[.func (.yield (w.heap.size + 1)) #[] #[]] }, WL, gf,
    #[.func (.yield (w.heap.size + 1)) #[] #[]] ++ lb, WL, by rw [← hWL, hrec]; exact run_enterLoop_outer _ _ _ _ _, by simp only [resolve, hg]; simp [go_sem], fun f' hf' => by simp [Target.leads] at hf'; subst hf'; exact hFg, by simp [invoke, go_sem, eg], fun _ => h1, ?_⟩
  refine (hseq (w.heap.size + 1) (fun pre W => I pre W ∧ W.heap[w.heap.size + 1]? = some (.loop (rec .ready none)) ∧ W.heap[w.heap.size]? = some (.deferred (some []))) WL bel ?_ ?_ ⟨hIL, hL, hD⟩).mono ?_
  · intro s X Y row hs hgr hr
    have hsz : w.heap.size ≤ WL.heap.size := bel.size
    exact ⟨hI s X Y row hs.1 hgr (fun r e => by obtain ⟨hB, o, ho, hw⟩ := hr r e; exact ⟨by omega, o, ho, Obj.not_cells_of_walk hw⟩), (grownBy_keeps hgr (fun r e => (hr r e).2) hs.2.1 rfl).trans hs.2.1, (grownBy_keeps hgr (fun r e => (hr r e).2) hs.2.2 rfl).trans hs.2.2⟩
  · rintro pre x W ⟨hi, hl, hk⟩ hx
    have hlt : w.heap.size + 1 < W.heap.size := (Array.getElem?_eq_some_iff.1 hl).1
    have hy := run_yield (P := P) (args := x.enc) hl (by rw [hrec]; exact hps.symm)
    rw [hrec] at hy
    refine ⟨fn, _, assign, body, hy, roundIn_of_wpIn hfn (hassign _ x W _ ⟨_, run_beginRound hl (by rw [hrec]), ?_⟩)⟩
    have hl2 : (W.putObj (w.heap.size + 1) (.loop { rec .ready none with state := .busy })).heap[w.heap.size + 1]? = some (.loop { rec .ready none with state := .busy }) := World.putObj_heap_same hlt
    have hk2 : (W.putObj (w.heap.size + 1) (.loop { rec .ready none with state := .busy })).heap[w.heap.size]? = some (.deferred (some [])) := (World.putObj_heap_other (by omega)).trans hk
    have kb := KeepB.putObj B (.loop { rec .ready none with state := .busy }) hl rfl
    refine wpIn_mono (hbody _ pre x _ (hI.putObj _ hi (by omega) hl rfl) (hx.keep kb)) ?_
    rintro e a3 W3 hp
    cases e with
    | normal =>
      obtain ⟨hk3, hkp, hi3⟩ := hp
      have hl3 := hk3.same _ _ (by omega) hl2 rfl
      have her := run_endRound (P := P) none hl3
      rw [hrec] at her hl3 hl
      refine ⟨_, _, her, rfl, ⟨hI.putObj _ hi3 (by omega) hl3 rfl, ?_, (World.putObj_heap_other (by omega)).trans (hk3.same _ _ (Nat.le_refl _) hk2 rfl)⟩, (kb.trans hkp).trans (KeepB.putObj B _ hl3 rfl)⟩
      rw [hrec]
      exact World.putObj_heap_same (Array.getElem?_eq_some_iff.1 hl3).1
    | ret => exact hp.2.elim
    | exit id => exact hp.2.elim
    | goto t => exact hp.2.elim
    | panic ch => exact hp.elim
    | outgrown => exact hp.elim
  · rintro e W2 ⟨⟨v, rfl⟩, xs, hS, hi, hl, hk⟩
    have hel := run_endLoop (P := P) hl (by rw [hrec]; simp)
    rw [hrec] at hel
    exact ⟨none, _, hel, hdone _ xs _ (Nat.le_refl _) hS (hI.putObj _ hi (by omega) hl rfl) ((World.putObj_heap_other (by omega)).trans hk)⟩
end Go.Proofs.YtmmocnokgcgmnaaDoor
