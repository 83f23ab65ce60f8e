/-
  TABLES: an empty one; a bit; the place of a net (the program).
-/
import Derived.Test.YtpoognkppnplpaaYTree
namespace Go.Proofs.Ytpoognkppnplpaa
set_option linter.unusedVariables false
open Go.RowKit
theorem bit_any (a d : Nat) (ha : a < 4294967296) (hd : d ≤ 32) (w : World) : Calls Try.prog 41 #[.int .u32 a, .int .i64 d] w fun e w' => e = .returned (.int .u32 (bitN a d)) ∧ w' = w := by
  have h31 : ((bitN a d : Nat) : Int) = IntKind.u32.wrap ((a : Int) * 2 ^ d) / 2147483648 := by
    unfold bitN
    rw [IntKind.wrap_u32]
    have e : ((a : Int) * 2 ^ d) % 4294967296 / 2147483648 = ((a * 2 ^ d % 4294967296 / 2147483648 : Nat) : Int) := by simp
    rw [e]
    split
    · rename_i h
      have h3 : 2 ^ (31 - d) * 2 ^ d = 2147483648 := by rw [← Nat.pow_add, show 31 - d + d = 31 by omega]
      have hp : 0 < 2 ^ d := Nat.two_pow_pos _
      have e1 : a * 2 ^ d % 4294967296 / 2147483648 = a * 2 ^ d / 2147483648 % 2 := by omega
      rw [e1, ← h3, Nat.mul_div_mul_right _ _ hp]
    · rename_i h
      obtain rfl : d = 32 := by omega
      omega
  have H := Lib.hid h31
  clear h31
  have hd0 : (0 : Int) ≤ d := by omega
  go_enter Try.func41, Try.ntmps41
  go_wp2
  go_ret
  exact ⟨by rw [H.out, IntKind.wrap_u32]; rfl, rfl⟩
theorem new_no (room : Int) (h : room < 1 ∨ 4096 < room) (w : World) : Calls Try.prog 25 #[.int .i64 room] w fun e w' => e = .returned (.tuple #[.pointer none, .int .i64 1]) ∧ w = w' := by
  by_cases h1 : room < 1
  · have d1 : decide (room < 1) = true := decide_eq_true h1
    clear h
    go_enter Try.func25, Try.ntmps25
    go_wp2
    go_ret2
    exact ⟨rfl, rfl⟩
  · have d1 : decide (room < 1) = false := decide_eq_false h1
    have h2 : 4096 < room := by omega
    have d2 : decide (4096 < room) = true := decide_eq_true h2
    clear h
    go_enter Try.func25, Try.ntmps25
    go_wp2
    go_ret2
    exact ⟨rfl, rfl⟩
theorem new_ok (room : Int) (h1 : 1 ≤ room) (h2 : room ≤ 4096) (w : World) : Calls Try.prog 25 #[.int .i64 room] w fun e w' => e = .returned (.tuple #[pt (some w.heap.size), .int .i64 0]) ∧ w.alloc (.cells #[.pointer none, .pointer none, .pointer none, .int .i64 room, .int .i64 0] 69) = w' := by
  have d1 : decide (room < 1) = false := decide_eq_false (by omega)
  have d2 : decide (4096 < room) = false := decide_eq_false (by omega)
  go_enter Try.func25, Try.ntmps25
  go_wp2
  go_ret2
  exact ⟨rfl, rfl⟩
def gNone : Nat → Nat → Option (Nat × Int) := fun _ _ => none
def fRoot (tb : Nat) : Nat → Nat → Option Nat := upd (fun _ _ => none) 0 0 (some tb)
theorem Tree.new (w : World) (room : Int) : Tree (w.alloc (.cells #[.pointer none, .pointer none, .pointer none, .int .i64 room, .int .i64 0] 69)) w.heap.size w.heap.size (fRoot w.heap.size) gNone := by
  have hf : ∀ n d b, fRoot w.heap.size n d = some b → n = 0 ∧ d = 0 ∧ b = w.heap.size := fun n d b h => by
    unfold fRoot upd at h
    split at h
    · rename_i e; exact ⟨e.1, e.2, (Option.some.inj h).symm⟩
    · cases h
  have hn : ∀ n d, fRoot w.heap.size n (d + 1) = none := fun n d => by
    cases h : fRoot w.heap.size n (d + 1) with
    | none => rfl
    | some b => have := (hf _ _ _ h).2.1; omega
  refine ⟨upd_same _ _ _ _, ?_, ?_, ?_, ?_, ?_⟩
  · intro n d b h
    obtain ⟨rfl, rfl, rfl⟩ := hf n d b h
    exact ⟨by omega, by omega, by simp, Nat.le_refl _⟩
  · intro n d m e b h k
    obtain ⟨rfl, rfl, _⟩ := hf n d b h
    obtain ⟨rfl, rfl, _⟩ := hf m e b k
    exact ⟨rfl, rfl⟩
  · intro n d h
    exact absurd (hn n d) h
  · intro n d b h
    obtain ⟨rfl, rfl, rfl⟩ := hf n d b h
    rw [hn, hn]
    exact ⟨_, _, heap_alloc_new w _, by unfold SP; decide, rfl, rfl, rfl⟩
  · intro n d eb v h
    cases h
theorem TabB.new (w : World) (room : Int) : TabB (w.alloc (.cells #[.pointer none, .pointer none, .pointer none, .int .i64 room, .int .i64 0] 69)) w.heap.size room 0 := ⟨_, heap_alloc_new w _, rfl, rfl⟩
/-- What the program's table does to the world. -/
structure Turns (base : Nat) (W W' : World) : Prop where
  bel : Below base W W'
  keep : KeepT SP W W'
theorem Turns.refl (base : Nat) (W : World) : Turns base W W := ⟨Below.refl _ _, KeepT.refl _ _⟩
theorem Turns.trans {base : Nat} {X Y Z : World} (h : Turns base X Y) (k : Turns base Y Z) : Turns base X Z := ⟨h.bel.trans k.bel, h.keep.trans k.keep⟩
theorem Turns.below {base : Nat} {X Y : World} (h : Below X.heap.size X Y) (hb : base ≤ X.heap.size) : Turns base X Y := ⟨h.mono hb, KeepT.below h⟩
theorem Turns.alloc {base : Nat} {X Y : World} (h : Turns base X Y) (hb : base ≤ X.heap.size) (o : Obj) : Turns base X (Y.alloc o) := h.trans (Turns.below ((Below.refl _ _).alloc (Nat.le_refl _) _) (Nat.le_trans hb h.bel.size))
theorem Turns.set {base : Nat} {W : World} {b i : Nat} {l r e : Option Nat} (h : NodeB W b l r e) (hb : base ≤ b) (v : Value) : Turns base W (W.setCell ⟨b, i, none⟩ v) := by
  obtain ⟨cs, T, hh, hT, _⟩ := h
  exact ⟨(Below.refl _ _).setCell (p := ⟨b, i, none⟩) hb _, KeepT.setCell hh hT v⟩
theorem Turns.drewN {base : Nat} {X Y : World} (h : Turns base X Y) (n : Nat) : Turns base X (Y.drewN n) := ⟨bel_drawn h.bel n, ⟨h.keep.1, h.keep.2⟩⟩
theorem TabB.keepT {S : TypeId → Prop} (hS : S 69) {W W' : World} {b : Nat} {r s : Int} (h : TabB W b r s) (k : KeepT S W W') : TabB W' b r s := by
  obtain ⟨cs, h, x⟩ := h
  exact ⟨cs, k.2 _ _ _ _ hS h, x⟩
theorem TabB.set {W : World} {b c i : Nat} {r s : Int} (h : TabB W b r s) (hi : i < 3) (v : Value) : TabB (W.setCell ⟨c, i, none⟩ v) b r s := by
  obtain ⟨cs, h, x, y⟩ := h
  by_cases e : b = c
  · subst e
    exact ⟨_, heap_setCell_same W b i cs _ v h, by rw [Array.getElem?_setIfInBounds, if_neg (by omega)]; exact x, by rw [Array.getElem?_setIfInBounds, if_neg (by omega)]; exact y⟩
  · exact ⟨cs, by rw [heap_setCell_other _ _ _ _ e]; exact h, x, y⟩
/-- Where the loop of place stands. -/
structure PlaceAt (w : World) (base tb : Nat) (g : Nat → Nat → Option (Nat × Int)) (r s : Int) (n d k b : Nat) (f : Nat → Nat → Option Nat) (wr : World) : Prop where
  tree : Tree wr base tb f g
  here : f (cutN n k) k = some b
  tab : TabB wr tb r s
  box : Bx wr w.heap.size (.int .u32 n) (.int .i64 d)
  turns : Turns base w wr
  le : k ≤ d
theorem PlaceAt.cellsOf {w : World} {base tb : Nat} {g : Nat → Nat → Option (Nat × Int)} {r s : Int} {n d k b : Nat} {f : Nat → Nat → Option Nat} {wr : World} (h : PlaceAt w base tb g r s n d k b f wr) {i : Nat} (hi : i < 2) :
    wr.cell? ⟨b, i, none⟩ = some (pt (f (kid (cutN n k) k i) (k + 1))) ∧ wr.frozen? ⟨b, i, none⟩ = false ∧ b < wr.heap.size := by
  obtain ⟨h0, h1, _, z0, z1, _, hl⟩ := (h.tree.node _ _ _ h.here).cells
  match i, hi with
  | 0, _ => exact ⟨h0, z0, hl⟩
  | 1, _ => exact ⟨h1, z1, hl⟩
theorem PlaceAt.step {w : World} {base tb : Nat} {g : Nat → Nat → Option (Nat × Int)} {r s : Int} {n d k b : Nat} {f : Nat → Nat → Option Nat} {wr : World} (h : PlaceAt w base tb g r s n d k b f wr) (hlt : k < d) (hd : d ≤ 32) {c : Nat} (hc : f (kid (cutN n k) k (bitN n k)) (k + 1) = some c) :
    PlaceAt w base tb g r s n d (k + 1) c f wr := ⟨h.tree, by rw [cut_kid n (by omega)]; exact hc, h.tab, h.box, h.turns, hlt⟩
theorem PlaceAt.grow {w : World} {base tb : Nat} {g : Nat → Nat → Option (Nat × Int)} {r s : Int} {n d k b : Nat} {f : Nat → Nat → Option Nat} {wr : World} (h : PlaceAt w base tb g r s n d k b f wr) (hb : base ≤ w.heap.size) (hlt : k < d) (hd : d ≤ 32) (hc : f (kid (cutN n k) k (bitN n k)) (k + 1) = none) :
    PlaceAt w base tb g r s n d (k + 1) wr.heap.size (upd f (kid (cutN n k) k (bitN n k)) (k + 1) (some wr.heap.size)) ((wr.alloc (.cells #[.pointer none, .pointer none, .pointer none] 67)).setCell ⟨b, bitN n k, none⟩ (.pointer (some ⟨wr.heap.size, 0, none⟩))) := by
  have hi := bitN_lt n k
  obtain ⟨_, hnl, hnm, hnb⟩ := h.tree.ok _ _ _ h.here
  have hkr := kid_right (right_nat.2 ⟨by omega, hnm⟩) (show k < 32 by omega) hi
  have hkm := (right_nat.1 hkr).2
  have t1 := h.tree.below ((Below.refl wr.heap.size wr).alloc (Nat.le_refl _) (.cells #[.pointer none, .pointer none, .pointer none] 67))
  have hsz := h.turns.bel.size
  have hbl := (h.cellsOf hi).2.2
  have t2 := t1.setKid h.here (by omega) hi (some wr.heap.size) (fun c e => by
    injection e with e
    subst e
    refine ⟨⟨_, _, heap_alloc_new wr _, by unfold SP; decide, rfl, rfl, rfl⟩, by omega, fun m e hme => ?_⟩
    have := (h.tree.node m e _ hme).cells.2.2.2.2.2.2
    omega) (by
    cases hg : g (kid (cutN n k) k (bitN n k)) (k + 1) with
    | none => rfl
    | some x => exact absurd hc (h.tree.ent _ _ x.1 x.2 hg).1) (fun j hj => h.tree.kid_none hkm hc hj)
  refine ⟨t2, by rw [cut_kid n (by omega), upd_same], (h.tab.keepT (S := SR) (by unfold SR; decide) (KeepT.below ((Below.refl wr.heap.size wr).alloc (Nat.le_refl _) _))).set (by omega) _, ?_, ?_, hlt⟩
  · have hne : w.heap.size ≠ b := fun e => by
      have hx := h.box
      obtain ⟨cs, T, hh, hT, _⟩ := h.tree.node _ _ _ h.here
      unfold Bx at hx
      rw [← e, hx] at hh
      cases hh
      exact hT (by unfold SP; decide)
    have hx := h.box.alloc (.cells #[.pointer none, .pointer none, .pointer none] 67)
    unfold Bx at hx ⊢
    rw [heap_setCell_other _ _ _ _ hne]
    exact hx
  · exact (h.turns.alloc hb _).trans (Turns.set (t1.node _ _ _ h.here) hnb _)
theorem PlaceAt.drewN {w : World} {base tb : Nat} {g : Nat → Nat → Option (Nat × Int)} {r s : Int} {n d k b : Nat} {f : Nat → Nat → Option Nat} {wr : World} (h : PlaceAt w base tb g r s n d k b f wr) (m : Nat) : PlaceAt w base tb g r s n d k b f (wr.drewN m) :=
  ⟨h.tree.below (bel_drawn (Below.refl _ _) m), h.here, h.tab, h.box, h.turns.drewN m, h.le⟩
set_option maxHeartbeats 1600000 in
set_option maxRecDepth 100000 in
theorem place_any (base tb : Nat) (f : Nat → Nat → Option Nat) (g : Nat → Nat → Option (Nat × Int)) (r s : Int) (n d : Nat) (hn : n < 4294967296) (hd : d ≤ 32) (hm : n % 2 ^ (32 - d) = 0) (w : World) (ht : Tree w base tb f g) (hT : TabB w tb r s) (hb : base ≤ w.heap.size) :
    Calls Try.prog 34 #[pt (some tb), .agg #[.int .u32 n, .int .i64 d]] w fun e w' => ∃ (f' : Nat → Nat → Option Nat) (b : Nat), e = .returned (pt (some b)) ∧ Tree w' base tb f' g ∧ f' n d = some b ∧ TabB w' tb r s ∧ Turns base w w' := by
  have hat : PlaceAt w base tb g r s n d 0 tb f (w.alloc (.cells #[.int .u32 n, .int .i64 d] 25)) :=
    ⟨ht.below ((Below.refl _ _).alloc (Nat.le_refl _) _), by rw [cut_zero hn]; exact ht.root, hT.keepT (S := SR) (by unfold SR; decide) (KeepT.below ((Below.refl w.heap.size w).alloc (Nat.le_refl _) _)), Bx.new _ _ _, (Turns.refl _ _).alloc hb _, Nat.zero_le _⟩
  have HAT := Lib.hid hat
  have HB := Lib.hid hb
  have HM := Lib.hid hm
  clear hat ht hT hm
  have hd0 : (0 : Int) ≤ d := by omega
  unfold pt
  go_enter Try.func34, Try.ntmps34
  go_wp2
  go_loopw [5, 13] (fun v i wr => ∃ (k b : Nat) (f : Nat → Nat → Option Nat), i = .int .i64 k ∧ v = .pointer (some ⟨b, 0, none⟩) ∧ Hid (PlaceAt w base tb g r s n d k b f wr)) (fun _ i _ => d - (intOf i).toNat)
  case atStart => exact ⟨0, tb, f, rfl, rfl, HAT⟩
  case round =>
    obtain ⟨k, b, f1, rfl, rfl, HA⟩ := hrel
    clear HAT
    obtain ⟨c0, c1, _, _⟩ := HA.out.box.cells
    have hk := HA.out.le
    by_cases hlt : k < d
    · have hi := bitN_lt n k
      have hbit := bit_any n k hn (by omega)
      obtain ⟨q0, q1, q2⟩ := HA.out.cellsOf hi
      have h32 : k < 32 := by omega
      cases hc : f1 (kid (cutN n k) k (bitN n k)) (k + 1) with
      | none =>
        have HC := Lib.hid hc
        rw [hc] at q0
        unfold pt at q0
        simp only [Option.map_none] at q0
        obtain ⟨I, hI⟩ : ∃ I, bitN n k = I := ⟨_, rfl⟩
        have HI := Lib.hid hI
        rw [hI] at hi hbit q0 q1
        clear hc hI
        go_wp2
        go_quiet ((go_at_call 41; exact Calls.quiet_of_same (hbit _)))
        have ha1 := HA.out.drewN nq
        generalize wr.drewN nq = W1 at *
        obtain ⟨c0, c1, _, _⟩ := ha1.box.cells
        have hn1 := ha1.grow HB.out hlt hd HC.out
        rw [HI.out, World.setCell_alloc_past _ _ _ _ (ha1.cellsOf (bitN_lt n k)).2.2] at hn1
        have hi3 := bitN_lt n k
        obtain ⟨q0, q1, q2⟩ := ha1.cellsOf hi3
        rw [HC.out] at q0
        rw [HI.out] at q0 q1
        unfold pt at q0
        simp only [Option.map_none] at q0
        have HN := Lib.hid hn1
        clear hn1 ha1 hi3
        go_wp2
        go_roundw
        case rel => exact ⟨k + 1, _, _, by go_num, rfl, HN.out⟩
        case measure => simp [intOf]; omega
      | some c =>
        have HN := Lib.hid (HA.out.step hlt hd hc)
        rw [hc] at q0
        unfold pt at q0
        simp only [Option.map_some] at q0
        generalize bitN n k = I at *
        clear hc
        go_wp2
        go_quiet ((go_at_call 41; exact Calls.quiet_of_same (hbit _)))
        go_wp2
        go_roundw
        case rel => exact ⟨k + 1, c, _, by go_num, rfl, HN.out.drewN _⟩
        case measure => simp [intOf]; omega
    · obtain rfl : k = d := by omega
      have hh := HA.out.here
      rw [cut_self HM.out] at hh
      have HH := Lib.hid hh
      clear hh
      go_wp2
      go_ret
      exact ⟨f1, b, rfl, HA.out.tree, HH.out, HA.out.tab, HA.out.turns⟩
end Go.Proofs.Ytpoognkppnplpaa
