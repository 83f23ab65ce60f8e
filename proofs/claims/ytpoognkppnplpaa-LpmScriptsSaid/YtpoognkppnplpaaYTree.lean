/-
  THE TREE OF BITS IN MEMORY: which block is the place of which net; what turns when a place, or an entry, is set.
-/
import Derived.Test.YtpoognkppnplpaaYPath
import Derived.Test.YtpoognkppnplpaaYBx
namespace Go.Proofs.Ytpoognkppnplpaa
set_option linter.unusedVariables false
set_option linter.unusedSimpArgs false
open Go.RowKit
/-- What keeps all blocks of some types. -/
def KeepT (S : TypeId → Prop) (W W' : World) : Prop := W.heap.size ≤ W'.heap.size ∧ ∀ (k : Nat) (cs : Array Value) (T : TypeId) (fr : Nat × Nat), S T → W.heap[k]? = some (.cells cs T fr) → W'.heap[k]? = some (.cells cs T fr)
theorem KeepT.refl (S : TypeId → Prop) (W : World) : KeepT S W W := ⟨Nat.le_refl _, fun _ _ _ _ _ h => h⟩
theorem KeepT.trans {S : TypeId → Prop} {X Y Z : World} (h : KeepT S X Y) (k : KeepT S Y Z) : KeepT S X Z := ⟨Nat.le_trans h.1 k.1, fun i cs T fr hs hc => k.2 i cs T fr hs (h.2 i cs T fr hs hc)⟩
theorem KeepT.below {S : TypeId → Prop} {X Y : World} (h : Below X.heap.size X Y) : KeepT S X Y := ⟨h.size, fun i _ _ _ _ hc => (h.block i (Array.getElem?_eq_some_iff.1 hc).1).trans hc⟩
theorem KeepT.setCell {S : TypeId → Prop} {X : World} {b i : Nat} {cs : Array Value} {T : TypeId} {fr : Nat × Nat} (hb : X.heap[b]? = some (.cells cs T fr)) (hT : ¬ S T) (v : Value) : KeepT S X (X.setCell ⟨b, i, none⟩ v) :=
  ⟨by simp, fun k cs' T' fr' hs hc => by
    have hne : k ≠ b := fun e => by rw [e, hb] at hc; cases hc; exact hT hs
    rw [heap_setCell_other _ _ _ _ hne]; exact hc⟩
/-- What the program's table may turn. -/
def SP (T : TypeId) : Prop := T ≠ 67 ∧ T ≠ 69
/-- What the document's table may turn. -/
def SR (T : TypeId) : Prop := T ≠ 36 ∧ T ≠ 62
def pt (x : Option Nat) : Value := .pointer (x.map fun b => ⟨b, 0, none⟩)
def upd {α : Type} (f : Nat → Nat → Option α) (n d : Nat) (x : Option α) : Nat → Nat → Option α := fun m e => if m = n ∧ e = d then x else f m e
theorem upd_same {α : Type} (f : Nat → Nat → Option α) (n d : Nat) (x : Option α) : upd f n d x n d = x := by unfold upd; rw [if_pos ⟨rfl, rfl⟩]
theorem upd_other {α : Type} (f : Nat → Nat → Option α) {n d m e : Nat} (x : Option α) (h : ¬ (m = n ∧ e = d)) : upd f n d x m e = f m e := by unfold upd; rw [if_neg h]
/-- A place: its two next ones, and its entry. -/
def NodeB (W : World) (b : Nat) (l r e : Option Nat) : Prop := ∃ (cs : Array Value) (T : TypeId), W.heap[b]? = some (.cells cs T (0, 0)) ∧ ¬ SP T ∧ cs[0]? = some (pt l) ∧ cs[1]? = some (pt r) ∧ cs[2]? = some (pt e)
def EntB (W : World) (b n d : Nat) (v : Int) : Prop := W.heap[b]? = some (.cells #[.int .u32 n, .int .i64 d, .int .i64 v] 60 (0, 0))
def TabB (W : World) (b : Nat) (room size : Int) : Prop := ∃ cs : Array Value, W.heap[b]? = some (.cells cs 69 (0, 0)) ∧ cs[3]? = some (.int .i64 room) ∧ cs[4]? = some (.int .i64 size)
/-- The cell of a place by number: 0, 1: the next ones; 2: the entry. -/
theorem NodeB.cells {W : World} {b : Nat} {l r e : Option Nat} (h : NodeB W b l r e) : W.cell? ⟨b, 0, none⟩ = some (pt l) ∧ W.cell? ⟨b, 1, none⟩ = some (pt r) ∧ W.cell? ⟨b, 2, none⟩ = some (pt e) ∧ W.frozen? ⟨b, 0, none⟩ = false ∧ W.frozen? ⟨b, 1, none⟩ = false ∧ W.frozen? ⟨b, 2, none⟩ = false ∧ b < W.heap.size := by
  obtain ⟨cs, T, h, _, h0, h1, h2⟩ := h
  exact ⟨by simp [World.cell?, h, h0], by simp [World.cell?, h, h1], by simp [World.cell?, h, h2], by simp [World.frozen?, h], by simp [World.frozen?, h], by simp [World.frozen?, h], (Array.getElem?_eq_some_iff.1 h).1⟩
theorem EntB.cells {W : World} {b n d : Nat} {v : Int} (h : EntB W b n d v) : W.cell? ⟨b, 0, none⟩ = some (.int .u32 n) ∧ W.cell? ⟨b, 1, none⟩ = some (.int .i64 d) ∧ W.cell? ⟨b, 2, none⟩ = some (.int .i64 v) ∧ b < W.heap.size := by
  unfold EntB at h
  exact ⟨by simp [World.cell?, h], by simp [World.cell?, h], by simp [World.cell?, h], (Array.getElem?_eq_some_iff.1 h).1⟩
theorem TabB.cells {W : World} {b : Nat} {room size : Int} (h : TabB W b room size) : W.cell? ⟨b, 3, none⟩ = some (.int .i64 room) ∧ W.cell? ⟨b, 4, none⟩ = some (.int .i64 size) ∧ W.frozen? ⟨b, 3, none⟩ = false ∧ W.frozen? ⟨b, 4, none⟩ = false ∧ b < W.heap.size := by
  obtain ⟨cs, h, h3, h4⟩ := h
  exact ⟨by simp [World.cell?, h, h3], by simp [World.cell?, h, h4], by simp [World.frozen?, h], by simp [World.frozen?, h], (Array.getElem?_eq_some_iff.1 h).1⟩
theorem ent_type {W : World} {b n d : Nat} {v : Int} (h : EntB W b n d v) {l r e : Option Nat} {c : Nat} (k : NodeB W c l r e) : b ≠ c := by
  rintro rfl
  obtain ⟨cs, T, hb, hT, _⟩ := k
  unfold EntB at h
  rw [h] at hb
  cases hb
  exact hT (by unfold SP; decide)
/-- THE TREE: f: which block is the place of a net; g: its entry's block, and number. -/
structure Tree (W : World) (base tb : Nat) (f : Nat → Nat → Option Nat) (g : Nat → Nat → Option (Nat × Int)) : Prop where
  root : f 0 0 = some tb
  ok : ∀ n d b, f n d = some b → d ≤ 32 ∧ n < 4294967296 ∧ n % 2 ^ (32 - d) = 0 ∧ base ≤ b
  inj : ∀ n d m e b, f n d = some b → f m e = some b → n = m ∧ d = e
  par : ∀ n d, f n (d + 1) ≠ none → f (cutN n d) d ≠ none
  node : ∀ n d b, f n d = some b → NodeB W b (f (kid n d 0) (d + 1)) (f (kid n d 1) (d + 1)) ((g n d).map (·.1))
  ent : ∀ n d eb v, g n d = some (eb, v) → f n d ≠ none ∧ base ≤ eb ∧ EntB W eb n d v
theorem Tree.keepS {S : TypeId → Prop} (h0 : S 67) (h1 : S 69) (h2 : S 60) {W W' : World} {base tb : Nat} {f : Nat → Nat → Option Nat} {g : Nat → Nat → Option (Nat × Int)} (h : Tree W base tb f g) (k : KeepT S W W') : Tree W' base tb f g :=
  ⟨h.root, h.ok, h.inj, h.par, fun n d b hb => by
    obtain ⟨cs, T, hh, hT, r⟩ := h.node n d b hb
    refine ⟨cs, T, k.2 b cs T _ ?_ hh, hT, r⟩
    unfold SP at hT
    by_cases e : T = 67
    · rw [e]; exact h0
    · by_cases e2 : T = 69
      · rw [e2]; exact h1
      · exact absurd ⟨e, e2⟩ hT,
   fun n d eb v hg => by
    obtain ⟨a, b, c⟩ := h.ent n d eb v hg
    exact ⟨a, b, k.2 eb _ _ _ h2 c⟩⟩
theorem Tree.keep {W W' : World} {base tb : Nat} {f : Nat → Nat → Option Nat} {g : Nat → Nat → Option (Nat × Int)} (h : Tree W base tb f g) (k : KeepT SR W W') : Tree W' base tb f g :=
  h.keepS (by unfold SR; decide) (by unfold SR; decide) (by unfold SR; decide) k
theorem Tree.below {W W' : World} {base tb : Nat} {f : Nat → Nat → Option Nat} {g : Nat → Nat → Option (Nat × Int)} (h : Tree W base tb f g) (k : Below W.heap.size W W') : Tree W' base tb f g := h.keep (KeepT.below k)
theorem cut_of_kid {n d i : Nat} (hn : n % 2 ^ (32 - d) = 0) (hd : d < 32) (hi : i < 2) : cutN (kid n d i) d = n := by
  unfold cutN kid
  rw [pow_half hd] at hn ⊢
  have hp : 0 < 2 ^ (31 - d) := Nat.two_pow_pos _
  generalize 2 ^ (31 - d) = H at *
  have h1 : i * H ≤ 1 * H := Nat.mul_le_mul_right _ (by omega)
  have h2 : (n + i * H) % (H * 2) = i * H := by
    rw [Nat.add_mod, hn, Nat.zero_add, Nat.mod_mod, Nat.mod_eq_of_lt (by omega)]
  rw [h2]
  omega
theorem kid_ne {n d : Nat} : kid n d 0 ≠ kid n d 1 := by
  unfold kid
  have hp : 0 < 2 ^ (31 - d) := Nat.two_pow_pos _
  omega
theorem kid_inj {n d i m j : Nat} (hn : n % 2 ^ (32 - d) = 0) (hm : m % 2 ^ (32 - d) = 0) (hd : d < 32) (hi : i < 2) (hj : j < 2) (h : kid n d i = kid m d j) : n = m := by
  rw [← cut_of_kid hn hd hi, h, cut_of_kid hm hd hj]
/-- A place's kid is of a place. -/
theorem Tree.kid_none {W : World} {base tb : Nat} {f : Nat → Nat → Option Nat} {g : Nat → Nat → Option (Nat × Int)} (h : Tree W base tb f g) {n d : Nat} (hn : n % 2 ^ (32 - d) = 0) (hf : f n d = none) {i : Nat} (hi : i < 2) : f (kid n d i) (d + 1) = none := by
  refine Classical.byContradiction fun hne => ?_
  by_cases hd : d < 32
  · have := h.par _ _ hne
    rw [cut_of_kid hn hd hi] at this
    exact this hf
  · obtain ⟨b, hb⟩ := Option.ne_none_iff_exists'.1 hne
    have := (h.ok _ _ _ hb).1
    omega
theorem Tree.leaf {W : World} {base tb : Nat} {f : Nat → Nat → Option Nat} {g : Nat → Nat → Option (Nat × Int)} (h : Tree W base tb f g) {n d : Nat} (hd : 32 < d) : f n d = none := by
  cases hf : f n d with
  | none => rfl
  | some b => have := (h.ok _ _ _ hf).1; omega
/-- Above a place there are places. -/
theorem Tree.above {W : World} {base tb : Nat} {f : Nat → Nat → Option Nat} {g : Nat → Nat → Option (Nat × Int)} (h : Tree W base tb f g) {n d : Nat} (hf : f n d ≠ none) : ∀ e, e ≤ d → f (cutN n e) e ≠ none := by
  intro e he
  obtain ⟨k, rfl⟩ : ∃ k, d = e + k := ⟨d - e, by omega⟩
  clear he
  induction k generalizing n with
  | zero =>
    rw [Nat.add_zero] at hf
    obtain ⟨b, hb⟩ := Option.ne_none_iff_exists'.1 hf
    rw [cut_self (h.ok _ _ _ hb).2.2.1]
    exact hf
  | succ k ih =>
    have h1 := h.par n (e + k) hf
    have h2 := ih h1
    rwa [cut_cut n (by omega)] at h2
theorem nodeB_set {W : World} {b : Nat} {l r e : Option Nat} (h : NodeB W b l r e) (i : Nat) (x : Option Nat) (hi : i < 3) : NodeB (W.setCell ⟨b, i, none⟩ (pt x)) b (if i = 0 then x else l) (if i = 1 then x else r) (if i = 2 then x else e) := by
  obtain ⟨cs, T, hh, hT, h0, h1, h2⟩ := h
  have hs : 2 < cs.size := (Array.getElem?_eq_some_iff.1 h2).1
  refine ⟨_, T, heap_setCell_same W b i cs T (pt x) hh, hT, ?_, ?_, ?_⟩
  · by_cases h : i = 0
    · subst h; rw [Array.getElem?_setIfInBounds, if_pos rfl, if_pos (by omega), if_pos rfl]
    · rw [if_neg h, ← h0, Array.getElem?_setIfInBounds, if_neg h]
  · by_cases h : i = 1
    · subst h; rw [Array.getElem?_setIfInBounds, if_pos rfl, if_pos (by omega), if_pos rfl]
    · rw [if_neg h, ← h1, Array.getElem?_setIfInBounds, if_neg h]
  · by_cases h : i = 2
    · subst h; rw [Array.getElem?_setIfInBounds, if_pos rfl, if_pos (by omega), if_pos rfl]
    · rw [if_neg h, ← h2, Array.getElem?_setIfInBounds, if_neg h]
theorem nodeB_other {W : World} {b c i : Nat} {v : Value} {l r e : Option Nat} (h : NodeB W c l r e) (hne : c ≠ b) : NodeB (W.setCell ⟨b, i, none⟩ v) c l r e := by
  obtain ⟨cs, T, hh, r⟩ := h
  exact ⟨cs, T, by rw [heap_setCell_other _ _ _ _ hne]; exact hh, r⟩
theorem entB_other {W : World} {b c i n d : Nat} {v : Value} {m : Int} (h : EntB W c n d m) (hne : c ≠ b) : EntB (W.setCell ⟨b, i, none⟩ v) c n d m := by
  unfold EntB at h ⊢
  rw [heap_setCell_other _ _ _ _ hne]; exact h
/-- A next one is set. -/
theorem Tree.setKid {W : World} {base tb : Nat} {f : Nat → Nat → Option Nat} {g : Nat → Nat → Option (Nat × Int)} (h : Tree W base tb f g) {n d b i : Nat} (hf : f n d = some b) (hd : d < 32) (hi : i < 2) (x : Option Nat)
    (hx : ∀ c, x = some c → NodeB W c none none none ∧ base ≤ c ∧ ∀ m e, f m e ≠ some c) (hg : g (kid n d i) (d + 1) = none) (hk : ∀ j, j < 2 → f (kid (kid n d i) (d + 1) j) (d + 1 + 1) = none) :
    Tree (W.setCell ⟨b, i, none⟩ (pt x)) base tb (upd f (kid n d i) (d + 1) x) g := by
  obtain ⟨_, hnl, hnm, hnb⟩ := h.ok _ _ _ hf
  have hkr := kid_right (right_nat.2 ⟨by omega, hnm⟩) hd hi
  have hkm := (right_nat.1 hkr).2
  have hkl := kid_lt (right_nat.2 ⟨by omega, hnm⟩) hnl hd hi
  have hback : ∀ m e c, upd f (kid n d i) (d + 1) x m e = some c → (m = kid n d i ∧ e = d + 1 ∧ x = some c) ∨ (¬ (m = kid n d i ∧ e = d + 1) ∧ f m e = some c) := fun m e c hc => by
    unfold upd at hc
    split at hc
    · rename_i he; exact .inl ⟨he.1, he.2, hc⟩
    · rename_i he; exact .inr ⟨he, hc⟩
  refine ⟨?_, ?_, ?_, ?_, ?_, ?_⟩
  · rw [upd_other _ _ (by omega)]; exact h.root
  · intro m e c hc
    rcases hback m e c hc with ⟨rfl, rfl, kc⟩ | ⟨_, kc⟩
    · exact ⟨by omega, hkl, hkm, (hx c kc).2.1⟩
    · exact h.ok m e c kc
  · intro m e m' e' c h1 h2
    rcases hback m e c h1 with ⟨e1, e2, k1⟩ | ⟨_, k1⟩ <;> rcases hback m' e' c h2 with ⟨e3, e4, k2⟩ | ⟨_, k2⟩
    · exact ⟨e1.trans e3.symm, e2.trans e4.symm⟩
    · exact absurd k2 ((hx c k1).2.2 _ _)
    · exact absurd k1 ((hx c k2).2.2 _ _)
    · exact h.inj _ _ _ _ _ k1 k2
  · intro m e hne
    by_cases he : m = kid n d i ∧ e + 1 = d + 1
    · obtain ⟨rfl, he⟩ := he
      obtain rfl : e = d := by omega
      rw [cut_of_kid hnm hd hi, upd_other _ _ (by omega), hf]
      simp
    · rw [upd_other _ _ he] at hne
      have hp := h.par m e hne
      by_cases he2 : cutN m e = kid n d i ∧ e = d + 1
      · obtain ⟨h1, rfl⟩ := he2
        obtain ⟨c, hc⟩ := Option.ne_none_iff_exists'.1 hne
        obtain ⟨h2, _, h3, _⟩ := h.ok _ _ _ hc
        have h4 := cut_kid m (show d + 1 < 32 by omega)
        rw [cut_self h3, h1] at h4
        rw [h4] at hne
        exact absurd (hk _ (bitN_lt _ _)) hne
      · rw [upd_other _ _ he2]; exact hp
  · intro m e c hc
    rcases hback m e c hc with ⟨rfl, rfl, kc⟩ | ⟨hne, kc⟩
    · obtain ⟨hn, _, hno⟩ := hx c kc
      rw [upd_other _ _ (by omega), upd_other _ _ (by omega), hk 0 (by decide), hk 1 (by decide), hg]
      exact nodeB_other hn (fun e => hno n d (by rw [e]; exact hf))
    · clear hc
      have hnode := h.node m e c kc
      by_cases hcb : c = b
      · subst hcb
        obtain ⟨rfl, rfl⟩ := h.inj _ _ _ _ _ kc hf
        have h1 := nodeB_set hnode i x (by omega)
        rw [if_neg (show ¬ i = 2 by omega)] at h1
        have e0 : upd f (kid m e i) (e + 1) x (kid m e 0) (e + 1) = if i = 0 then x else f (kid m e 0) (e + 1) := by
          by_cases h0 : i = 0
          · subst h0; rw [upd_same, if_pos rfl]
          · obtain rfl : i = 1 := by omega
            rw [upd_other _ _ (fun hh => kid_ne hh.1), if_neg h0]
        have e1 : upd f (kid m e i) (e + 1) x (kid m e 1) (e + 1) = if i = 1 then x else f (kid m e 1) (e + 1) := by
          by_cases h0 : i = 1
          · subst h0; rw [upd_same, if_pos rfl]
          · obtain rfl : i = 0 := by omega
            rw [upd_other _ _ (fun hh => kid_ne hh.1.symm), if_neg h0]
        rw [e0, e1]
        exact h1
      · have hne' : ∀ j, j < 2 → upd f (kid n d i) (d + 1) x (kid m e j) (e + 1) = f (kid m e j) (e + 1) := fun j hj => by
          refine upd_other _ _ fun hh => hcb ?_
          obtain ⟨h1, h2⟩ := hh
          obtain rfl : e = d := by omega
          have := kid_inj (h.ok _ _ _ kc).2.2.1 hnm hd hj hi h1
          subst this
          rw [hf] at kc
          exact (Option.some.inj kc).symm
        rw [hne' 0 (by decide), hne' 1 (by decide)]
        exact nodeB_other hnode hcb
  · intro m e eb v hv
    obtain ⟨h1, h2, h3⟩ := h.ent m e eb v hv
    refine ⟨?_, h2, entB_other h3 (ent_type h3 (h.node _ _ _ hf))⟩
    rw [upd_other _ _ (fun hh => by rw [hh.1, hh.2, hg] at hv; cases hv)]
    exact h1
/-- An entry is set. -/
theorem Tree.setEnt {W : World} {base tb : Nat} {f : Nat → Nat → Option Nat} {g : Nat → Nat → Option (Nat × Int)} (h : Tree W base tb f g) {n d b : Nat} (hf : f n d = some b) (x : Option (Nat × Int))
    (hx : ∀ eb v, x = some (eb, v) → base ≤ eb ∧ EntB W eb n d v) : Tree (W.setCell ⟨b, 2, none⟩ (pt (x.map (·.1)))) base tb f (upd g n d x) := by
  refine ⟨h.root, h.ok, h.inj, h.par, ?_, ?_⟩
  · intro m e c hc
    have hnode := h.node m e c hc
    by_cases hcb : c = b
    · subst hcb
      obtain ⟨rfl, rfl⟩ := h.inj _ _ _ _ _ hc hf
      have h1 := nodeB_set hnode 2 (x.map (·.1)) (by omega)
      rw [upd_same]
      simpa using h1
    · rw [upd_other _ _ (fun hh => by rw [hh.1, hh.2, hf] at hc; exact hcb (Option.some.inj hc).symm)]
      exact nodeB_other hnode hcb
  · intro m e eb v hv
    unfold upd at hv
    split at hv
    · rename_i he
      obtain ⟨rfl, rfl⟩ := he
      obtain ⟨h1, h2⟩ := hx eb v hv
      exact ⟨by rw [hf]; simp, h1, entB_other h2 (ent_type h2 (h.node _ _ _ hf))⟩
    · obtain ⟨h1, h2, h3⟩ := h.ent m e eb v hv
      exact ⟨h1, h2, entB_other h3 (ent_type h3 (h.node _ _ _ hf))⟩
/-- What the entries are of what is known. -/
def Match (L : List Ent) (g : Nat → Nat → Option (Nat × Int)) : Prop := ∀ n d : Nat, getL L (n, (d : Int)) = (g n d).map (·.2)
theorem Match.set {L L' : List Ent} {g : Nat → Nat → Option (Nat × Int)} (h : Match L g) {n d : Nat} {x : Option (Nat × Int)} (hL : ∀ q, getL L' q = if q = (n, (d : Int)) then x.map (·.2) else getL L q) : Match L' (upd g n d x) := by
  intro m e
  rw [hL]
  by_cases he : m = n ∧ e = d
  · obtain ⟨rfl, rfl⟩ := he
    rw [upd_same, if_pos rfl]
  · rw [upd_other _ _ he, if_neg (fun hh => he ⟨by injection hh, by injection hh with _ h2; omega⟩)]
    exact h m e
theorem Tree.sub_none {W : World} {base tb : Nat} {f : Nat → Nat → Option Nat} {g : Nat → Nat → Option (Nat × Int)} (h : Tree W base tb f g) {L : List Ent} (hL : Good L) (hm : Match L g) {n d : Nat} (hr : rightP (n, (d : Int)) = true) (hf : f n d = none) : subL L n d = [] := by
  unfold subL
  rw [List.filter_eq_nil_iff]
  intro x hx hc
  obtain ⟨e, he, h1, h2⟩ := right_cases (hL.right x hx).1
  have hx' := (hL.right x hx).1
  have hg := (getL_mem hL.rises (p := x.1) (n := x.2)).2 hx
  obtain ⟨⟨m, b⟩, v⟩ := x
  simp only [Prod.mk.injEq, true_and] at he
  subst he
  simp only at hc hx' hg h2
  rw [hm m e] at hg
  rw [covers_nat hr hx'] at hc
  obtain ⟨y, hy, _⟩ := Option.map_eq_some_iff.1 hg
  have h3 := (h.ent m e y.1 y.2 hy).1
  have h4 := h.above h3 d hc.1
  have h5 : cutN m d = n := by
    refine (in_nat hr m).1 ?_
    exact (in_alt2 hr m).2 hc.2
  rw [h5] at h4
  exact h4 hf
theorem Tree.way_all {W : World} {base tb : Nat} {f : Nat → Nat → Option Nat} {g : Nat → Nat → Option (Nat × Int)} (h : Tree W base tb f g) {L : List Ent} (hL : Good L) (hm : Match L g) {a d : Nat} (hf : f (cutN a d) d = none) : wayL L a d = onL a L := by
  refine wayL_all fun x hx hi => ?_
  obtain ⟨e, he, h1, h2⟩ := right_cases (hL.right x hx).1
  have hx' := (hL.right x hx).1
  have hg := (getL_mem hL.rises (p := x.1) (n := x.2)).2 hx
  obtain ⟨⟨m, b⟩, v⟩ := x
  simp only [Prod.mk.injEq, true_and] at he
  subst he
  simp only at hi hx' hg h2 ⊢
  rw [hm m e] at hg
  obtain ⟨y, hy, _⟩ := Option.map_eq_some_iff.1 hg
  have h3 := (h.ent m e y.1 y.2 hy).1
  have h4 : cutN a e = m := (in_nat hx' a).1 hi
  refine Classical.byContradiction fun hlt => ?_
  have h5 := h.above h3 d (by omega)
  rw [← h4, cut_cut a (by omega)] at h5
  exact h5 hf
theorem ent_way {L : List Ent} {g : Nat → Nat → Option (Nat × Int)} (hm : Match L g) (n d : Nat) : entL L (n, (d : Int)) = match g n d with
    | none => []
    | some (_, v) => [((n, (d : Int)), v)] := by
  unfold entL
  rw [hm n d]
  cases g n d <;> rfl
end Go.Proofs.Ytpoognkppnplpaa
