/-
  TABLES: a net's entry is taken off the tree, and the places that lead to none any more (the program).
-/
import Derived.Test.YtpoognkppnplpaaYPlace
import Derived.StillTailTactics
import Derived.Outline
import Derived.IntWalk
import Derived.ChangeKeysEq
namespace Go.Proofs.Ytpoognkppnplpaa
set_option linter.unusedSimpArgs false
set_option linter.unusedVariables false
open Go.RowKit
/-- A tree's cells as the walk reads them. -/
theorem Tree.cellsAt {W : World} {base tb : Nat} {f : Nat → Nat → Option Nat} {g : Nat → Nat → Option (Nat × Int)} (h : Tree W base tb f g) {n d b : Nat} (hf : f n d = some b) {i : Nat} (hi : i < 2) :
    W.cell? ⟨b, i, none⟩ = some (pt (f (kid n d i) (d + 1))) ∧ W.frozen? ⟨b, i, none⟩ = false ∧ b < W.heap.size := by
  obtain ⟨h0, h1, _, z0, z1, _, hl⟩ := (h.node _ _ _ hf).cells
  match i, hi with
  | 0, _ => exact ⟨h0, z0, hl⟩
  | 1, _ => exact ⟨h1, z1, hl⟩
/-- What drop leaves. -/
structure Dropped (base tb : Nat) (f : Nat → Nat → Option Nat) (g : Nat → Nat → Option (Nat × Int)) (r s : Int) (n d k : Nat) (f' : Nat → Nat → Option Nat) (w w' : World) : Prop where
  tree : Tree w' base tb f' (upd g n d none)
  same : ∀ m e, e ≤ k → f' m e = f m e
  tab : TabB w' tb r s
  turns : Turns base w w'
theorem Dropped.drewN {base tb : Nat} {f : Nat → Nat → Option Nat} {g : Nat → Nat → Option (Nat × Int)} {r s : Int} {n d k : Nat} {f' : Nat → Nat → Option Nat} {w w' : World} (h : Dropped base tb f g r s n d k f' w w') (m : Nat) : Dropped base tb f g r s n d k f' w (w'.drewN m) :=
  ⟨h.tree.below (bel_drawn (Below.refl _ _) m), h.same, h.tab, h.turns.drewN m⟩
theorem TabB.alloc {W : World} {b : Nat} {r s : Int} (h : TabB W b r s) (o : Obj) : TabB (W.alloc o) b r s := h.keepT (S := SR) (by unfold SR; decide) (KeepT.below ((Below.refl W.heap.size W).alloc (Nat.le_refl _) _))
theorem Tree.alloc {W : World} {base tb : Nat} {f : Nat → Nat → Option Nat} {g : Nat → Nat → Option (Nat × Int)} (h : Tree W base tb f g) (o : Obj) : Tree (W.alloc o) base tb f g := h.below ((Below.refl _ _).alloc (Nat.le_refl _) _)
theorem Tree.drewN {W : World} {base tb : Nat} {f : Nat → Nat → Option Nat} {g : Nat → Nat → Option (Nat × Int)} (h : Tree W base tb f g) (m : Nat) : Tree (W.drewN m) base tb f g := h.below (bel_drawn (Below.refl _ _) m)
theorem Dropped.leaf {base tb : Nat} {f : Nat → Nat → Option Nat} {g : Nat → Nat → Option (Nat × Int)} {r s : Int} {n d b : Nat} {w : World} (ht : Tree w base tb f g) (hT : TabB w tb r s) (hf : f n d = some b) (hb : base ≤ w.heap.size) (o : Obj) :
    Dropped base tb f g r s n d d f w ((w.setCell ⟨b, 2, none⟩ (.pointer none)).alloc o) := by
  have h1 := ht.setEnt hf none (fun _ _ e => by cases e)
  have hn := ht.node _ _ _ hf
  exact ⟨h1.alloc o, fun _ _ _ => rfl, (hT.set (by omega) _).alloc _, (Turns.set hn (ht.ok _ _ _ hf).2.2.2 _).alloc hb _⟩
set_option maxHeartbeats 1600000 in
set_option maxRecDepth 100000 in
theorem dropn_leaf (base tb : Nat) (f : Nat → Nat → Option Nat) (g : Nat → Nat → Option (Nat × Int)) (r s : Int) (n d b : Nat) (hd : d ≤ 32) (w : World) (ht : Tree w base tb f g) (hT : TabB w tb r s) (hf : f n d = some b) (hb : base ≤ w.heap.size) :
    Calls Try.prog 33 #[pt (some b), .agg #[.int .u32 n, .int .i64 d], .int .i64 d] w fun e w' => e = .returned (.tuple #[]) ∧ Dropped base tb f g r s n d d f w w' := by
  have HD := Lib.hid (Dropped.leaf ht hT hf hb (.cells #[.int .u32 n, .int .i64 d] 25))
  obtain ⟨_, _, c2, _, _, z2, hl⟩ := (ht.node _ _ _ hf).cells
  clear ht hT hf hb
  unfold pt
  go_enter Try.func33, Try.ntmps33
  go_wp2
  exact bodyPost_ret (results_none rfl _ _ _) rfl ⟨rfl, HD.out⟩
theorem eq_ptr (T : TypeId) (hT : T = 63 ∨ T = 65) (d : Nat) (z : Option Nat) (W : World) : (Op.equalIn (d + 1) T (pt z) (.pointer none)).run Try.prog W = .ok z.isNone W := by
  rcases hT with rfl | rfl <;> cases z <;> (unfold pt; simp only [Option.map_none, Option.map_some]; unfold Op.equalIn; go_simp)
theorem part_ptr0 (x y : Option Nat) (W : World) : (part 63 #[pt x, pt y] 0).run Try.prog W = .ok (pt x) W := by go_simp
theorem part_ptr1 (x y : Option Nat) (W : World) : (part 63 #[pt x, pt y] 1).run Try.prog W = .ok (pt y) W := by go_simp
theorem eq_arr (x y : Option Nat) (W : World) : (Op.equalIn 9999 64 (.agg #[pt x, pt y]) (.agg #[.pointer none, .pointer none])).run Try.prog W = .ok (x.isNone && y.isNone) W := by
  obtain ⟨i, hi⟩ : ∃ i, Try.prog.info? 63 = some i := ⟨_, rfl⟩
  have hc : Try.prog.cellsOf 63 = 1 := by kernel_rfl
  have e2 : ∀ z W, (Op.equalIn 9998 63 (pt z) (pt none)).run Try.prog W = .ok z.isNone W := fun z W => eq_ptr 63 (.inl rfl) 9997 z W
  rw [run_equalIn_array W 9998 _ _ Try.underlying64 hi, hc]
  show (Op.eqItems 9998 63 1 #[pt x, pt y] #[pt none, pt none] [0, 1]).run Try.prog W = _
  simp only [Op.eqItems, Sem.run_bind, Nat.zero_mul, Nat.one_mul, part_ptr0, part_ptr1, Result.andThen_ok, e2]
  cases x <;> cases y <;> simp [part_ptr1, e2]
theorem eq_node (x y z : Option Nat) (W : World) : (Op.equalIn 10000 67 (.agg #[pt x, pt y, pt z]) (.agg #[.pointer none, .pointer none, .pointer none])).run Try.prog W = .ok (x.isNone && y.isNone && z.isNone) W := by
  have e1 := eq_arr x y
  have e2 := eq_ptr 65 (.inr rfl) 9998 z
  go_simp
  cases x <;> cases y <;> cases z <;> simp
attribute [local go_sem high] eq_node
/-- Behind the way down. -/
theorem Dropped.keep {base tb : Nat} {f : Nat → Nat → Option Nat} {g : Nat → Nat → Option (Nat × Int)} {r s : Int} {n d k : Nat} {f' : Nat → Nat → Option Nat} {w w0 w' : World} (h : Dropped base tb f g r s n d (k + 1) f' w0 w') (h0 : Turns base w w0) : Dropped base tb f g r s n d k f' w w' :=
  ⟨h.tree, fun m e he => h.same m e (by omega), h.tab, h0.trans h.turns⟩
theorem Dropped.unlink {base tb : Nat} {f : Nat → Nat → Option Nat} {g : Nat → Nat → Option (Nat × Int)} {r s : Int} {n d k b i : Nat} {f' : Nat → Nat → Option Nat} {w w0 w' : World} (h : Dropped base tb f g r s n d (k + 1) f' w0 w') (h0 : Turns base w w0) (hf : f (cutN n k) k = some b) (hk : k < 32) (hi : i < 2)
    (x0 : f' (kid (kid (cutN n k) k i) (k + 1) 0) (k + 1 + 1) = none) (x1 : f' (kid (kid (cutN n k) k i) (k + 1) 1) (k + 1 + 1) = none) (x2 : upd g n d none (kid (cutN n k) k i) (k + 1) = none) :
    Dropped base tb f g r s n d k (upd f' (kid (cutN n k) k i) (k + 1) none) w (w'.setCell ⟨b, i, none⟩ (.pointer none)) := by
  have hf' : f' (cutN n k) k = some b := (h.same _ _ (by omega)).trans hf
  have t := h.tree.setKid hf' hk hi none (fun _ e => by cases e) x2 (fun j hj => by
    match j, hj with
    | 0, _ => exact x0
    | 1, _ => exact x1)
  exact ⟨t, fun m e he => by rw [upd_other _ _ (by omega)]; exact h.same m e (by omega), h.tab.set (by omega) _, (h0.trans h.turns).trans (Turns.set (h.tree.node _ _ _ hf') (h.tree.ok _ _ _ hf').2.2.2 _)⟩
set_option maxHeartbeats 4000000 in
set_option maxRecDepth 100000 in
theorem dropn_any (base tb : Nat) (g : Nat → Nat → Option (Nat × Int)) (r s : Int) (n d : Nat) (hn : n < 4294967296) (hd : d ≤ 32) (hm : n % 2 ^ (32 - d) = 0) : ∀ (j k b : Nat) (f : Nat → Nat → Option Nat) (w : World), k + j = d → Tree w base tb f g → TabB w tb r s → f (cutN n k) k = some b → f n d ≠ none → base ≤ w.heap.size →
    Calls Try.prog 33 #[pt (some b), .agg #[.int .u32 n, .int .i64 d], .int .i64 k] w fun e w' => e = .returned (.tuple #[]) ∧ ∃ f', Dropped base tb f g r s n d k f' w w' := by
  intro j
  induction j with
  | zero =>
    intro k b f w hkd ht hT hf _ hb
    obtain rfl : k = d := by omega
    rw [cut_self hm] at hf
    exact (dropn_leaf base tb f g r s n k b hd w ht hT hf hb).mono fun e w' ⟨he, h⟩ => ⟨he, f, h⟩
  | succ j ih =>
    intro k b f w hkd ht hT hf hfd hb
    have hk : k < 32 := by omega
    have hi := bitN_lt n k
    have hck := cut_kid n hk
    have habove := ht.above hfd (k + 1) (by omega)
    rw [hck] at habove
    obtain ⟨c, hc⟩ := Option.ne_none_iff_exists'.1 habove
    have hbit := bit_any n k hn (by omega)
    have hcell := ht.cellsAt hf hi
    rw [hc] at hcell
    obtain ⟨W0, hW0⟩ : ∃ W0, w.alloc (.cells #[.int .u32 n, .int .i64 d] 25) = W0 := ⟨_, rfl⟩
    have tW0 : Turns base w W0 := by rw [← hW0]; exact (Turns.refl _ _).alloc hb _
    have hb0 : base ≤ W0.heap.size := Nat.le_trans hb tW0.bel.size
    have ih1 := fun m => ih (k + 1) c f (W0.drewN m) (by omega) (by rw [← hW0]; exact (ht.alloc _).drewN m) (by rw [← hW0]; exact hT.alloc _) (by rw [hck]; exact hc) hfd hb0
    have HW0 := Lib.hid hW0
    have TW0 := Lib.hid tW0
    have IH1 := Lib.hid ih1
    have HFD := Lib.hid hf
    have HCK := Lib.hid hck
    have HC := Lib.hid hc
    obtain ⟨q0, q1, q2⟩ := hcell
    obtain ⟨I, hI⟩ : ∃ I, bitN n k = I := ⟨_, rfl⟩
    have HI := Lib.hid hI
    rw [hI] at hi hbit q0 q1
    clear ih ih1 hW0 tW0 hck hc hf hfd hT ht hm habove hI
    have hne : decide ((k : Int) = d) = false := decide_eq_false (by omega)
    unfold pt at q0 ⊢
    go_enter Try.func33, Try.ntmps33
    go_wp2
    go_quiet ((go_at_call 41; exact Calls.quiet_of_same (hbit _)))
    go_wp2
    obtain ⟨W1, hW1⟩ : ∃ W1, ((w.alloc (.cells #[.int .u32 n, .int .i64 d] 25)).drewN nq).drew = W1 := ⟨_, rfl⟩
    have eW1 : W0.drewN (nq + 1) = W1 := by rw [← HW0.out, ← hW1]; rfl
    have s0 : W1.cell? ⟨b, I, none⟩ = some (.pointer (some ⟨c, 0, none⟩)) := by
      rw [← hW1]
      exact (World.cell?_alloc_past (w := w) _ b I q2).trans q0
    have s1 : W1.cell? ⟨w.heap.size, 0, none⟩ = some (.int .u32 n) := by rw [← hW1]; exact World.cell?_alloc_new (w := w) _ _ 0
    have s2 : W1.cell? ⟨w.heap.size, 1, none⟩ = some (.int .i64 d) := by rw [← hW1]; exact World.cell?_alloc_new (w := w) _ _ 1
    have ih2 := IH1.out (nq + 1)
    rw [eW1] at ih2
    unfold pt at ih2
    simp only [Option.map_some] at ih2
    have ek : IntKind.i64.wrap ((k : Int) + 1) = (k : Int) + 1 := IntWalk.i64_in _ (by omega)
    have ek2 : ((k + 1 : Nat) : Int) = (k : Int) + 1 := by omega
    rw [ek2] at ih2
    have TW1 : Hid (Turns base w W1) := by rw [← eW1]; exact TW0.out.drewN _
    clear ek2 IH1 TW0 eW1
    refine region_tail 6 (by kernel_rfl) (by kernel_rfl) W1 hW1 ?_
    simp only [List.take_succ_cons, List.take_zero, List.drop_succ_cons, List.drop_zero]
    clear hW1 HW0
    iterate 6 still_step
    refine wpStill_nil ?_
    go_wp2_with fail
    clear ek s0 s1 s2 q0 q1 q2
    go_at_call 33
    refine ih2.mono ?_
    rintro e w2 ⟨rfl, f1, hD⟩
    have hf1 := (hD.same _ _ (Nat.le_succ k)).trans HFD.out
    obtain ⟨p0, p1, p2⟩ := hD.tree.cellsAt hf1 hi
    have hck1 := (hD.same _ _ (Nat.le_refl (k + 1))).trans HC.out
    obtain ⟨r0, r1, r2, _, _, _, r6⟩ := (hD.tree.node _ _ _ hck1).cells
    have HF1 := Lib.hid hf1
    rw [HI.out] at r0 r1 r2 hck1
    rw [hck1] at p0
    have HD := Lib.hid hD
    have HI2 := HI.out
    clear hck1 hD hf1 HI hbit
    generalize hx0 : f1 (kid (kid (cutN n k) k I) (k + 1) 0) (k + 1 + 1) = X0 at *
    generalize hx1 : f1 (kid (kid (cutN n k) k I) (k + 1) 1) (k + 1 + 1) = X1 at *
    generalize hx2 : upd g n d none (kid (cutN n k) k I) (k + 1) = X2 at *
    have HX0 := Lib.hid hx0
    have HX1 := Lib.hid hx1
    have HX2 := Lib.hid hx2
    have HI := Lib.hid HI2
    clear hx0 hx1 hx2 HI2
    have e0 : pt (some c) = .pointer (some ⟨c, 0, none⟩) := rfl
    rw [e0] at p0
    clear e0
    go_wp2
    all_goals go_end0
    · have hE : (X0.isNone = true ∧ X1.isNone = true) ∧ X2.isNone = true := by assumption
      simp only [Option.isNone_iff_eq_none] at hE
      exact ⟨rfl, _, HD.out.unlink TW1.out HFD.out hk hi (HX0.out.trans hE.1.1) (HX1.out.trans hE.1.2) (HX2.out.trans hE.2)⟩
    · exact ⟨rfl, f1, HD.out.keep TW1.out⟩
end Go.Proofs.Ytpoognkppnplpaa
