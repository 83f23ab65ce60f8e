/-
  ARRAYS AS VALUES AND AS BLOCKS: loads and stores of a whole one, within plain regions.
-/
import Derived.Test.YtmmocnokgcgmnaaDoorHRight
import Derived.WalkSmall
namespace Go.Proofs.YtmmocnokgcgmnaaDoor
open Go.RowKit
variable {P : Program}

theorem wpList_load_arr {ops : Array Oper} {rest : List Oper} {o : Oper} {a : Act} {w : World} {Q : Exit → Act → World → Prop} (hgd : o.guard = none) (ty : TypeId) (x : Operand) (ho : o.op = .load ty x)
    (g : Nat) (hx : a.eval x = .pointer (some ⟨g, 0, none⟩)) {t : TypeId} {vs : List Value} {d : TypeDesc} (hg : Arr w g t vs) (hu : P.underlying ty = some d) (hd : (match d with | .struct _ | .array _ _ => true | _ => false) = true)
    {n : Nat} (hi : (P.info? ty).map (·.size) = some n) (hn : vs.length = n)
    (h : wpList P ops Q rest (a.put o.dst (.agg vs.toArray)) w) : wpList P ops Q (o :: rest) a w :=
  wpList_load_row hgd ty x ho g hx t vs.toArray (0, 0) d hg hu hd (by rw [hi, ← hn]; rfl) h

theorem wpList_store_arr {ops : Array Oper} {rest : List Oper} {o : Oper} {a : Act} {w : World} {Q : Exit → Act → World → Prop} (hgd : o.guard = none) (ty : TypeId) (x y : Operand) (ho : o.op = .store ty x y)
    (g : Nat) (hx : a.eval x = .pointer (some ⟨g, 0, none⟩)) {vs old : List Value} (hy : a.eval y = .agg vs.toArray) {t : TypeId} (hg : Arr w g t old) {n : Nat} (hi : (P.info? ty).map (·.size) = some n) (hn : vs.length = n) (ho2 : old.length = n) (h1 : vs.toArray.all (·.oneCell') = true)
    (h : ∀ w', Hid (Arr w' g t vs) → Hid (Below g w w') → w'.heap.size = w.heap.size → Hid (∀ k, k ≠ g → w'.heap[k]? = w.heap[k]?) → wpList P ops Q rest (a.put o.dst undef) w') : wpList P ops Q (o :: rest) a w :=
  wpList_store_row hgd ty x y ho g vs.toArray hx hy t old.toArray hg (by rw [hi, ← hn]; rfl) (by simp; omega) h1
    (h _ (Arr.row hg vs) (below_setRow (Below.refl _ _) (Nat.le_refl _) _) (by simp [World.setRow]) (fun k hk => setRow_other w g k _ hk))

theorem Arr.same {W W' : World} {g g' : Nat} {t : TypeId} {vs : List Value} (h : Arr W g t vs) (hs : ∀ k, k ≠ g' → W'.heap[k]? = W.heap[k]?) (hne : g ≠ g') : Arr W' g t vs := (hs g hne).trans h

/-- An element of an array by value, of one cell each. -/
theorem run_index_arr {t e : TypeId} {n : Nat} {ik : IntKind} (ht : P.underlying t = some (.array n e)) (he : P.underlying e = some (.int ik)) (hs : (P.info? e).map (·.size) = some 1) {cs : Array Value} {v : Value} {k : Nat} (hk : k < n) (hv : cs[k]? = some v) (w : World) :
    (Instr.index t (.agg cs) (.int .i64 k)).run P w = .ok v w := by
  cases hq : P.info? e with
  | none => simp [hq] at hs
  | some i =>
    have hs1 : i.size = 1 := by simpa [hq] using hs
    simp [Instr.index, run_underlying ht, asIntOf, part, isAgg, run_underlying he, sizeOf, typeInfo, hq, hs1, hk, hv, go_sem]

theorem results_arr {fn : Func} {tmps : Array Value} {w : World} {p : Tmp} {ty : TypeId} {g : Nat} {t : TypeId} {vs : List Value} {d : TypeDesc} {n : Nat} (h : fn.results = #[.cell p ty]) (hp : tmps.getD p undef = .pointer (some ⟨g, 0, none⟩)) (hg : Arr w g t vs)
    (hu : P.underlying ty = some d) (hd : (match d with | .struct _ | .array _ _ => true | _ => false) = true) (hi : (P.info? ty).map (·.size) = some n) (hn : vs.length = n) :
    (results fn tmps).run P w = .ok (.agg vs.toArray) w := results_cell_row h tmps w g t vs.toArray (0, 0) d hp hg hu hd (by rw [hi, ← hn]; rfl)

/-! What the walk spells, in the mathematics' words. -/
theorem xor_raw {a b : Nat} (h1 : a < 4294967296) (h2 : b < 4294967296) : bits .xor .u32 (a : Int) (b : Int) = ((a ^^^ b : Nat) : Int) := u32_xor_nat a b h1 h2
theorem raw_bS1 {x : Nat} (h : x < 4294967296) : bits .xor .u32 (bits .xor .u32 (rot x 6 : Nat) (rot x 11 : Nat)) (rot x 25 : Nat) = (bS1 x : Nat) := by
  rw [xor_raw (rot_lt h _) (rot_lt h _), xor_raw (xor32 (rot_lt h _) (rot_lt h _)) (rot_lt h _)]; rfl
theorem raw_bS0 {x : Nat} (h : x < 4294967296) : bits .xor .u32 (bits .xor .u32 (rot x 2 : Nat) (rot x 13 : Nat)) (rot x 22 : Nat) = (bS0 x : Nat) := by
  rw [xor_raw (rot_lt h _) (rot_lt h _), xor_raw (xor32 (rot_lt h _) (rot_lt h _)) (rot_lt h _)]; rfl
theorem raw_lS0 {x : Nat} (h : x < 4294967296) : bits .xor .u32 (bits .xor .u32 (rot x 7 : Nat) (rot x 18 : Nat)) ((x : Int) / 8) = (lS0 x : Nat) := by
  have e : ((x / 8 : Nat) : Int) = (x : Int) / 8 := by omega
  rw [xor_raw (rot_lt h _) (rot_lt h _), ← e, xor_raw (xor32 (rot_lt h _) (rot_lt h _)) (by omega)]; rfl
theorem raw_lS1 {x : Nat} (h : x < 4294967296) : bits .xor .u32 (bits .xor .u32 (rot x 17 : Nat) (rot x 19 : Nat)) ((x : Int) / 1024) = (lS1 x : Nat) := by
  have e : ((x / 1024 : Nat) : Int) = (x : Int) / 1024 := by omega
  rw [xor_raw (rot_lt h _) (rot_lt h _), ← e, xor_raw (xor32 (rot_lt h _) (rot_lt h _)) (by omega)]; rfl
theorem not_raw {e : Nat} (h : e < 4294967296) : bits .xor .u32 IntKind.u32.max (e : Int) = ((4294967295 - e : Nat) : Int) := by
  have h1 : (4294967295 : Nat) ^^^ e = 4294967295 - e := by
    have h2 := congrArg BitVec.toNat (BitVec.allOnes_xor (x := BitVec.ofNat 32 e))
    rw [BitVec.toNat_xor, BitVec.toNat_not, BitVec.toNat_ofNat, BitVec.toNat_allOnes, Nat.mod_eq_of_lt h] at h2
    simpa using h2
  rw [← h1]
  exact u32_xor_nat 4294967295 e (by decide) h
theorem raw_cho {e f g : Nat} (he : e < 4294967296) (hf : f < 4294967296) (hg : g < 4294967296) : bits .xor .u32 (bits .and .u32 (e : Int) (f : Int)) (bits .and .u32 (bits .xor .u32 IntKind.u32.max (e : Int)) (g : Int)) = (cho e f g : Nat) := by
  rw [not_raw he, u32_and_nat _ _ he hf, u32_and_nat _ _ (by omega) hg, xor_raw (and32 hf) (and32 hg)]; rfl
theorem raw_maj {a b c : Nat} (ha : a < 4294967296) (hb : b < 4294967296) (hc : c < 4294967296) : bits .xor .u32 (bits .xor .u32 (bits .and .u32 (a : Int) (b : Int)) (bits .and .u32 (a : Int) (c : Int))) (bits .and .u32 (b : Int) (c : Int)) = (maj a b c : Nat) := by
  rw [u32_and_nat _ _ ha hb, u32_and_nat _ _ ha hc, u32_and_nat _ _ hb hc, xor_raw (and32 hb) (and32 hc), xor_raw (xor32 (and32 hb) (and32 hc)) (and32 hc)]; rfl
theorem raw_addT (s : V8) (k x : Nat) : (((s.h : Int) + (bS1 s.e : Nat) + (cho s.e s.f s.g : Nat) + (k : Int) + (x : Int)) % 4294967296) = (addT s k x : Nat) := by
  unfold addT; omega
theorem raw_addU (s : V8) : (((bS0 s.a : Nat) : Int) + (maj s.a s.b s.c : Nat)) % 4294967296 = (addU s : Nat) := by
  unfold addU; omega
end Go.Proofs.YtmmocnokgcgmnaaDoor
