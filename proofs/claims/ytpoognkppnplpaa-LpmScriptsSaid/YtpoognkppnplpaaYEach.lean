/-
  TABLES: all that is known, handed out in order (the program).
-/
import Derived.Test.YtpoognkppnplpaaYGet
namespace Go.Proofs.Ytpoognkppnplpaa
set_option linter.unusedSimpArgs false
set_option linter.unusedVariables false
open Go.RowKit Go.Shelf
attribute [local go_sem] Oper.semAt_some
theorem room_of_none {F : Fence} (hd : F.depth = none) (k : Nat) : F.room k := fun d h => by rw [hd] at h; cases h
theorem roundIn_anyDepth {F : Fence} (hd : F.depth = none) {m m' : Nat} {P : Program} {l : Nat} {f : FuncId} {tmps : Array Value} {assign body : Code} {w : World} {R : Ending → World → Prop}
    (h : RoundIn F m P l f tmps assign body w R) : RoundIn F m' P l f tmps assign body w R := ⟨h.1, fun c cs _ => h.2 c cs (room_of_none hd _)⟩
theorem yieldAt_anyDepth {F : Fence} (hd : F.depth = none) {m : Nat} (m' : Nat) {P : Program} {l : Nat} {args : Array Value} {W : World} {R : Ending → World → Prop} (h : YieldAt F m P l args W R) : YieldAt F m' P l args W R := by
  obtain ⟨fn, tmps, assign, body, hy, hR⟩ := h
  exact ⟨fn, tmps, assign, body, hy, roundIn_anyDepth hd hR⟩
theorem no_undef {b : Bool} (h : some undef = some (Value.bool b)) : False := by cases h
theorem each_nil (m l : Nat) (W : World) : CallsIn Fence.wide m Try.prog 44 #[.pointer none, .func (.yield l) #[] #[]] W fun e W' => e = .returned (.bool true) ∧ W' = W := by
  refine callsIn_of_wp Try.func44 rfl trivial ?_ rfl
  simp only [Try.ntmps44, List.size_toArray, List.length_cons, List.length_nil, Nat.reduceAdd, Nat.reduceSub, Array.replicate_succ, Array.replicate_zero, List.push_toArray, List.append_toArray, List.nil_append, List.cons_append]
  gi_wp2
  all_goals (try (exact (no_undef (by assumption)).elim))
  refine ⟨fun _ h => (by cases h), ?_⟩
  gi_wp2
  all_goals (try (exact (no_undef (by assumption)).elim))
  refine ⟨trivial, ?_⟩
  gi_wp2
  all_goals (try (exact (no_undef (by assumption)).elim))
  refine ⟨trivial, ?_⟩
  gi_wp2
  go_ret
  exact ⟨rfl, rfl⟩
/-- What a walk through a tree leaves. -/
def Walked (J Jx : List Ent → World → Prop) (n₀ : Nat) (K pre : List Ent) (W : World) (e : Ending) (W' : World) : Prop :=
  (e = .returned (.bool true) ∧ J (pre ++ K) W' ∧ Below n₀ W W') ∨ (e = .returned (.bool false) ∧ ∃ q, q <+: K ∧ Jx (pre ++ q) W')
set_option maxRecDepth 100000 in
set_option maxHeartbeats 4000000 in
theorem each_node (l n₀ N : Nat) (J Jx : List Ent → World → Prop)
    (hY : ∀ m pre x W, J pre W → pre.length < N → YieldAt Fence.wide m Try.prog l (encE x) W fun e W' => (e = .returned (.bool true) ∧ J (pre ++ [x]) W' ∧ Below n₀ W W') ∨ (e = .returned (.bool false) ∧ Jx (pre ++ [x]) W'))
    (W0 : World) (hn : W0.heap.size = n₀) (base tb : Nat) (f : Nat → Nat → Option Nat) (g : Nat → Nat → Option (Nat × Int)) (ht : Tree W0 base tb f g) (n d b : Nat) (hf : f n d = some b) (K0 K1 : List Ent)
    (h0 : ∀ m pre W, Below n₀ W0 W → J pre W → pre.length + K0.length ≤ N → CallsIn Fence.wide m Try.prog 44 #[pt (f (kid n d 0) (d + 1)), .func (.yield l) #[] #[]] W (Walked J Jx n₀ K0 pre W))
    (h1 : ∀ m pre W, Below n₀ W0 W → J pre W → pre.length + K1.length ≤ N → CallsIn Fence.wide m Try.prog 44 #[pt (f (kid n d 1) (d + 1)), .func (.yield l) #[] #[]] W (Walked J Jx n₀ K1 pre W))
    (m : Nat) (pre : List Ent) (W : World) (hW : Below n₀ W0 W) (hJ : J pre W) (E : List Ent) (hE : E = match g n d with | none => [] | some (_, v) => [((n, (d : Int)), v)]) (hN : pre.length + (E ++ (K0 ++ K1)).length ≤ N) :
    CallsIn Fence.wide m Try.prog 44 #[pt (some b), .func (.yield l) #[] #[]] W (Walked J Jx n₀ (E ++ (K0 ++ K1)) pre W) := by
  have hc : ∀ W', Below n₀ W0 W' → W'.cell? ⟨b, 0, none⟩ = some (pt (f (kid n d 0) (d + 1))) ∧ W'.cell? ⟨b, 1, none⟩ = some (pt (f (kid n d 1) (d + 1))) := fun W' hW' => by
    obtain ⟨c0, c1, _⟩ := ((ht.below (by rw [hn]; exact hW')).node _ _ _ hf).cells
    exact ⟨c0, c1⟩
  have q0 : ∀ m pre' W', Below n₀ W0 W' → J pre' W' → pre'.length + K0.length ≤ N → CallsIn Fence.wide m Try.prog 44 #[pt (f (kid n d 0) (d + 1)), .func (.yield l) #[] #[]] W' fun e W2 =>
      (e = .returned (.bool true) ∧ Hid (J (pre' ++ K0) W2) ∧ Hid (Below n₀ W0 W2) ∧ W2.cell? ⟨b, 1, none⟩ = some (pt (f (kid n d 1) (d + 1))) ∧ Hid (Below n₀ W' W2)) ∨ (e = .returned (.bool false) ∧ Hid (∃ q, q <+: K0 ∧ Jx (pre' ++ q) W2)) := fun m pre' W' hb hj hl =>
    (h0 m pre' W' hb hj hl).mono fun e W2 h => h.elim (fun ⟨he, hj, hb2⟩ => .inl ⟨he, hj, hb.trans hb2, (hc _ (hb.trans hb2)).2, hb2⟩) .inr
  have q1 : ∀ m pre' W', Below n₀ W0 W' → J pre' W' → pre'.length + K1.length ≤ N → CallsIn Fence.wide m Try.prog 44 #[pt (f (kid n d 1) (d + 1)), .func (.yield l) #[] #[]] W' fun e W2 =>
      (e = .returned (.bool true) ∧ Hid (J (pre' ++ K1) W2) ∧ Hid (Below n₀ W' W2)) ∨ (e = .returned (.bool false) ∧ Hid (∃ q, q <+: K1 ∧ Jx (pre' ++ q) W2)) := fun m pre' W' hb hj hl => h1 m pre' W' hb hj hl
  have hdd : ∀ k : Nat, (Fence.wide.depth.isSome = true → 1 ≤ k) := fun k h => by cases h
  have Q0 := Lib.hid q0
  have Q1 := Lib.hid q1
  have HW := Lib.hid hW
  have HJ := Lib.hid hJ
  have HC := Lib.hid hc
  have hge : ∀ eb v, g n d = some (eb, v) → ∀ W', Below n₀ W0 W' → EntB W' eb n d v := fun eb v hg W' hW' => ((ht.below (by rw [hn]; exact hW')).ent _ _ _ _ hg).2.2
  obtain ⟨c0, c1, c2, _⟩ := ((ht.below (by rw [hn]; exact hW)).node _ _ _ hf).cells
  generalize pt (f (kid n d 0) (d + 1)) = P0 at *
  generalize pt (f (kid n d 1) (d + 1)) = P1 at *
  clear q0 q1 hW hJ hc ht hf h0 h1
  cases hg : g n d with
  | none =>
    rw [hg] at hE c2
    unfold pt at c2 ⊢
    simp only [Option.map_none, Option.map_some] at c2 hE ⊢
    subst hE
    simp only [List.nil_append, List.length_append] at hN ⊢
    clear hge hY hg
    refine callsIn_of_wp Try.func44 rfl trivial ?_ rfl
    simp only [Try.ntmps44, List.size_toArray, List.length_cons, List.length_nil, Nat.reduceAdd, Nat.reduceSub, Array.replicate_succ, Array.replicate_zero, List.push_toArray, List.append_toArray, List.nil_append, List.cons_append]
    gi_wp2
    all_goals (try (exact (no_undef (by assumption)).elim))
    refine ⟨fun _ h => (by cases h), ?_⟩
    gi_wp2_with (first
      | (refine ⟨trivial, hdd _, ?_⟩; gi_at_call 44; refine (Q0.out _ _ _ HW.out HJ.out (by omega)).mono ?_; clear Q0; rintro e W2 (⟨rfl, hj2, hb2, k1, hbb⟩ | ⟨rfl, hx⟩))
      | (refine ⟨trivial, hdd _, ?_⟩; gi_at_call 44; refine (Q1.out _ _ _ hb2.out hj2.out (by simp; omega)).mono ?_; rintro e W3 (⟨rfl, hj3, hb3⟩ | ⟨rfl, hx3⟩)))
    all_goals (try (exact (no_undef (by assumption)).elim))
    · go_ret
      exact .inl ⟨rfl, by rw [← List.append_assoc]; exact hj3.out, hbb.out.trans hb3.out⟩
    · go_ret
      obtain ⟨q, hq, hqx⟩ := hx3.out
      exact .inr ⟨rfl, K0 ++ q, List.prefix_append_right_inj K0 |>.2 hq, by rw [← List.append_assoc]; exact hqx⟩
    · refine ⟨trivial, ?_⟩
      gi_wp2
      go_ret
      obtain ⟨q, hq, hqx⟩ := hx.out
      exact .inr ⟨rfl, q, hq.trans (List.prefix_append _ _), hqx⟩
  | some ev =>
    obtain ⟨eb, v⟩ := ev
    rw [hg] at hE c2
    unfold pt at c2 ⊢
    simp only [Option.map_some] at c2 hE ⊢
    subst hE
    have he := hge eb v hg W HW.out
    obtain ⟨e0, e1, e2, hel⟩ := he.cells
    simp only [List.length_append, List.length_cons, List.length_nil] at hN
    have hy2 := (hY (m - 1) pre ((n, (d : Int)), v) W HJ.out (by omega)).mono (R' := fun e W2 =>
        (e = .returned (.bool true) ∧ Hid (J (pre ++ [((n, (d : Int)), v)]) W2) ∧ Hid (Below n₀ W W2) ∧ W2.cell? ⟨b, 0, none⟩ = some P0) ∨ (e = .returned (.bool false) ∧ Hid (Jx (pre ++ [((n, (d : Int)), v)]) W2)))
      (fun e W2 h => h.elim (fun ⟨a1, a2, a3⟩ => .inl ⟨a1, a2, a3, (HC.out _ (HW.out.trans a3)).1⟩) .inr)
    unfold encE at hy2
    dsimp only at hy2
    obtain ⟨fn, tmps, assign, body, hy, hR⟩ := hy2
    clear hge hY hg he
    refine callsIn_of_wp Try.func44 rfl trivial ?_ rfl
    simp only [Try.ntmps44, List.size_toArray, List.length_cons, List.length_nil, Nat.reduceAdd, Nat.reduceSub, Array.replicate_succ, Array.replicate_zero, List.push_toArray, List.append_toArray, List.nil_append, List.cons_append]
    gi_wp2_with (first
      | ((try refine ⟨hdd _, ?_⟩); refine hR.mono ?_; clear hR; rintro e W1 (⟨rfl, hj1, hb1, k0⟩ | ⟨rfl, hx1⟩))
      | (refine ⟨trivial, hdd _, ?_⟩; gi_at_call 44; refine (Q0.out _ _ _ (HW.out.trans hb1.out) hj1.out (by simp; omega)).mono ?_; clear Q0; rintro e W2 (⟨rfl, hj2, hb2, k1, hbb⟩ | ⟨rfl, hx⟩))
      | (refine ⟨trivial, hdd _, ?_⟩; gi_at_call 44; refine (Q1.out _ _ _ hb2.out hj2.out (by simp; omega)).mono ?_; rintro e W3 (⟨rfl, hj3, hb3⟩ | ⟨rfl, hx3⟩)))
    · go_ret
      exact .inl ⟨rfl, by have h := hj3.out; rw [List.append_assoc, List.append_assoc] at h; exact h, hb1.out.trans (hbb.out.trans hb3.out)⟩
    · go_ret
      obtain ⟨q, hq, hqx⟩ := hx3.out
      exact .inr ⟨rfl, ((n, (d : Int)), v) :: (K0 ++ q), List.cons_prefix_cons.2 ⟨rfl, (List.prefix_append_right_inj K0).2 hq⟩, by rw [List.append_assoc, List.append_assoc] at hqx; exact hqx⟩
    · refine ⟨trivial, ?_⟩
      gi_wp2
      go_ret
      obtain ⟨q, hq, hqx⟩ := hx.out
      exact .inr ⟨rfl, ((n, (d : Int)), v) :: q, List.cons_prefix_cons.2 ⟨rfl, hq.trans (List.prefix_append _ _)⟩, by rw [List.append_assoc] at hqx; exact hqx⟩
    · refine ⟨trivial, ?_⟩
      gi_wp2
      all_goals (try (exact (no_undef (by assumption)).elim))
      refine ⟨trivial, ?_⟩
      gi_wp2
      go_ret
      exact .inr ⟨rfl, [((n, (d : Int)), v)], List.cons_prefix_cons.2 ⟨rfl, List.nil_prefix⟩, hx1.out⟩
theorem each_any (l n₀ N : Nat) (J Jx : List Ent → World → Prop)
    (hY : ∀ m pre x W, J pre W → pre.length < N → YieldAt Fence.wide m Try.prog l (encE x) W fun e W' => (e = .returned (.bool true) ∧ J (pre ++ [x]) W' ∧ Below n₀ W W') ∨ (e = .returned (.bool false) ∧ Jx (pre ++ [x]) W'))
    (W0 : World) (hn : W0.heap.size = n₀) (base tb : Nat) (f : Nat → Nat → Option Nat) (g : Nat → Nat → Option (Nat × Int)) (ht : Tree W0 base tb f g) (L : List Ent) (hL : Good L) (hm : Match L g) :
    ∀ (k n d : Nat), d + k = 32 → rightP (n, (d : Int)) = true → ∀ m pre W, Below n₀ W0 W → J pre W → pre.length + (subL L n d).length ≤ N → CallsIn Fence.wide m Try.prog 44 #[pt (f n d), .func (.yield l) #[] #[]] W (Walked J Jx n₀ (subL L n d) pre W) := by
  intro k
  induction k with
  | zero =>
    intro n d hd hr m pre W hW hJ hN
    obtain rfl : d = 32 := by omega
    cases hf : f n 32 with
    | none =>
      rw [ht.sub_none hL hm hr hf]
      exact (each_nil m l W).mono fun e W' ⟨he, hw⟩ => .inl ⟨he, by subst hw; rw [List.append_nil]; exact hJ, by subst hw; exact Below.refl _ _⟩
    | some b =>
      have hs := subL_leaf hL hr
      have kn : ∀ j, ∀ m pre W, Below n₀ W0 W → J pre W → pre.length + ([] : List Ent).length ≤ N → CallsIn Fence.wide m Try.prog 44 #[pt (f (kid n 32 j) (32 + 1)), .func (.yield l) #[] #[]] W (Walked J Jx n₀ [] pre W) := fun j m pre W hW hJ _ => by
        rw [ht.leaf (show 32 < 32 + 1 by omega)]
        exact (each_nil m l W).mono fun e W' ⟨he, hw⟩ => .inl ⟨he, by subst hw; rw [List.append_nil]; exact hJ, by subst hw; exact Below.refl _ _⟩
      have h := each_node l n₀ N J Jx hY W0 hn base tb f g ht n 32 b hf [] [] (kn 0) (kn 1) m pre W hW hJ (subL L n 32) (by rw [hs]; exact ent_way hm n 32) (by simpa using hN)
      rw [List.append_nil, List.append_nil] at h
      exact h
  | succ k ih =>
    intro n d hd hr m pre W hW hJ hN
    cases hf : f n d with
    | none =>
      rw [ht.sub_none hL hm hr hf]
      exact (each_nil m l W).mono fun e W' ⟨he, hw⟩ => .inl ⟨he, by subst hw; rw [List.append_nil]; exact hJ, by subst hw; exact Below.refl _ _⟩
    | some b =>
      have hs := subL_split hL hr (show d < 32 by omega)
      rw [hs] at hN ⊢
      exact each_node l n₀ N J Jx hY W0 hn base tb f g ht n d b hf _ _
        (fun m pre W hW hJ hN => ih _ _ (by omega) (kid_right hr (by omega) (by decide)) m pre W hW hJ hN)
        (fun m pre W hW hJ hN => ih _ _ (by omega) (kid_right hr (by omega) (by decide)) m pre W hW hJ hN) m pre W hW hJ _ (ent_way hm n d) hN
/-- The iterator's maker, and what it makes. -/
theorem entries_any (tb : Nat) (w : World) : Calls Try.prog 30 #[pt (some tb)] w fun e w' => e = .returned (.func (.func 43) #[] #[.pointer (some ⟨w.heap.size, 0, none⟩)]) ∧ w.alloc (.cells #[pt (some tb)] 27) = w' := by
  unfold pt
  go_enter Try.func30, Try.ntmps30
  go_wp2
  go_ret
  exact ⟨rfl, rfl⟩
theorem entries_stops (ws w : World) (hws : Below ws.heap.size ws w) (tb base : Nat) (f : Nat → Nat → Option Nat) (g : Nat → Nat → Option (Nat × Int)) (L : List Ent) (hL : Good L) (hm : Match L g) (ht : Tree ws base tb f g) (W0 : World) (hW0 : w.alloc (.cells #[pt (some tb)] 27) = W0) :
    SeqStopsK Fence.wide 2 Try.prog 43 #[.pointer (some ⟨w.heap.size, 0, none⟩)] encE (Below ws.heap.size) (fun ys => ys = L) (fun pre => pre <+: L) L.length W0 := fun l J Jx W hW hJ hJx hY h0 => by
  have hs : W0.heap.size = w.heap.size + 1 := by rw [← hW0]; simp
  have c0 : W0.cell? ⟨w.heap.size, 0, none⟩ = some (pt (some tb)) := by rw [← hW0]; exact cell_box w _ _
  have hb : Below ws.heap.size ws W := by
    rw [← hW0] at hW
    exact (hws.trans ((Below.refl _ w).alloc hws.size (.cells #[pt (some tb)] 27))).trans (hW.mono (by have := hws.size; simp; omega))
  have hc : W.cell? ⟨w.heap.size, 0, none⟩ = some (pt (some tb)) := (hW.cell (p := ⟨w.heap.size, 0, none⟩) (by show w.heap.size < _; omega)).trans c0
  have he := each_any l ws.heap.size L.length J Jx (fun m pre x W1 hj hl => yieldAt_anyDepth rfl m (hY pre x W1 hj hl)) ws rfl base tb f g ht L hL hm 32 0 0 rfl (right_nat.2 ⟨by omega, by simp⟩) 1 [] W hb h0 (by rw [subL_root hL]; simp)
  rw [subL_root hL, ht.root] at he
  have HE := Lib.hid he
  clear he
  show CallsIn Fence.wide 2 Try.prog 43 #[.func (.yield l) #[] #[], .pointer (some ⟨w.heap.size, 0, none⟩)] W _
  unfold pt at HE hc
  simp only [Option.map_some] at HE hc
  refine callsIn_of_wp Try.func43 rfl trivial ?_ rfl
  simp only [Try.ntmps43, List.size_toArray, List.length_cons, List.length_nil, Nat.reduceAdd, Nat.reduceSub, Array.replicate_succ, Array.replicate_zero, List.push_toArray, List.append_toArray, List.nil_append, List.cons_append]
  gi_wp2_with (refine ⟨trivial, ?_⟩; gi_at_call 44; refine HE.out.mono ?_; rintro e W1 (⟨rfl, hj1, _⟩ | ⟨rfl, q, hq, hx⟩))
  · go_end0
    exact ⟨⟨_, rfl⟩, .inl ⟨_, rfl, by simpa using hj1⟩⟩
  · go_end0
    exact ⟨⟨_, rfl⟩, .inr ⟨q, hq, by simpa using hx⟩⟩
end Go.Proofs.Ytpoognkppnplpaa
