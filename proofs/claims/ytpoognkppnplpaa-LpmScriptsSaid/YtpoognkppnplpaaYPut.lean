/-
  TABLES: a net's number is put; a net is dropped; how many are known (the program).
-/
import Derived.Test.YtpoognkppnplpaaYGet
namespace Go.Proofs.Ytpoognkppnplpaa
set_option linter.unusedSimpArgs false
set_option linter.unusedVariables false
open Go.RowKit
/-- A table. -/
structure Tab (W : World) (base tb : Nat) (room : Int) (L : List Ent) (f : Nat → Nat → Option Nat) (g : Nat → Nat → Option (Nat × Int)) : Prop where
  tree : Tree W base tb f g
  tab : TabB W tb room L.length
  good : Good L
  mat : Match L g
  le : (L.length : Int) ≤ room
  room : room ≤ 4096
  base : base ≤ W.heap.size
def TabP (W : World) (base tb : Nat) (room : Int) (L : List Ent) : Prop := ∃ f g, Tab W base tb room L f g
theorem Tab.keep {W W' : World} {base tb : Nat} {room : Int} {L : List Ent} {f : Nat → Nat → Option Nat} {g : Nat → Nat → Option (Nat × Int)} (h : Tab W base tb room L f g) (k : KeepT SR W W') : Tab W' base tb room L f g :=
  ⟨h.tree.keep k, h.tab.keepT (by unfold SR; decide) k, h.good, h.mat, h.le, h.room, Nat.le_trans h.base k.1⟩
theorem TabP.keep {W W' : World} {base tb : Nat} {room : Int} {L : List Ent} (h : TabP W base tb room L) (k : KeepT SR W W') : TabP W' base tb room L := by
  obtain ⟨f, g, h⟩ := h
  exact ⟨f, g, h.keep k⟩
theorem TabP.below {W W' : World} {base tb : Nat} {room : Int} {L : List Ent} (h : TabP W base tb room L) (k : Below W.heap.size W W') : TabP W' base tb room L := h.keep (KeepT.below k)
theorem TabP.new (w : World) {room : Int} (h1 : 1 ≤ room) (h2 : room ≤ 4096) : TabP (w.alloc (.cells #[.pointer none, .pointer none, .pointer none, .int .i64 room, .int .i64 0] 69)) w.heap.size w.heap.size room [] :=
  ⟨_, _, Tree.new w room, TabB.new w room, Good.nil, fun n d => rfl, by simp; omega, h2, by simp⟩
theorem len_any (tb base : Nat) (room : Int) (L : List Ent) (w : World) (h : TabP w base tb room L) : Calls Try.prog 13 #[pt (some tb)] w fun e w' => e = .returned (.int .i64 L.length) ∧ w = w' := by
  obtain ⟨f, g, h⟩ := h
  obtain ⟨_, c4, _⟩ := h.tab.cells
  clear h
  unfold pt
  go_enter Try.func13, Try.ntmps13
  go_wp2
  go_ret
  exact ⟨rfl, rfl⟩
def putE (room : Int) (L : List Ent) (p : Nat × Int) : Int := if rightP p = true then (if getL L p = none ∧ (L.length : Int) = room then 3 else 0) else 1
def putA (room : Int) (L : List Ent) (p : Nat × Int) (k : Int) : List Ent := if putE room L p = 0 then putL p k L else L
theorem get_is (tb base n : Nat) (hn : n < 4294967296) (b : Int) (f : Nat → Nat → Option Nat) (g : Nat → Nat → Option (Nat × Int)) (L : List Ent) (hL : Good L) (hm : Match L g) (w : World) (ht : Tree w base tb f g) {m : Int} (hg : getL L (n, b) = some m) :
    Calls Try.prog 11 #[pt (some tb), .agg #[.int .u32 n, .int .i64 b]] w fun e w' => e = .returned (.tuple #[.int .i64 m, .bool true]) ∧ Below w.heap.size w w' := get_any tb base n hn b f g L hL hm w ht m true (by rw [hg])
theorem get_not (tb base n : Nat) (hn : n < 4294967296) (b : Int) (f : Nat → Nat → Option Nat) (g : Nat → Nat → Option (Nat × Int)) (L : List Ent) (hL : Good L) (hm : Match L g) (w : World) (ht : Tree w base tb f g) (hg : getL L (n, b) = none) :
    Calls Try.prog 11 #[pt (some tb), .agg #[.int .u32 n, .int .i64 b]] w fun e w' => e = .returned (.tuple #[.int .i64 0, .bool false]) ∧ Below w.heap.size w w' := get_any tb base n hn b f g L hL hm w ht 0 false (by rw [hg])
set_option maxHeartbeats 1600000 in
set_option maxRecDepth 100000 in
theorem put_bad (base tb n : Nat) (hn : n < 4294967296) (b k : Int) (w : World) (hr : rightP (n, b) = false) :
    Calls Try.prog 22 #[pt (some tb), .agg #[.int .u32 n, .int .i64 b], .int .i64 k] w fun e w' => e = .returned (.int .i64 1) ∧ Below w.heap.size w w' := by
  have hrt := right_any n hn b
  rw [hr] at hrt
  have HB := Lib.hid ((Below.refl w.heap.size w).alloc (Nat.le_refl _) (.cells #[.int .u32 n, .int .i64 b] 25))
  go_enter Try.func22, Try.ntmps22
  go_wp2_with (go_at_call 24; refine (hrt _).mono ?_; rintro e w1 ⟨rfl, hb1⟩; have HB1 := Lib.hid (HB.out.trans (hb1.mono (by simp))); clear hb1)
  go_ret
  exact ⟨rfl, HB1.out⟩
set_option maxHeartbeats 1600000 in
set_option maxRecDepth 100000 in
theorem put_full (base tb n : Nat) (hn : n < 4294967296) (b k : Int) (room : Int) (L : List Ent) (w : World) (h : TabP w base tb room L) (hr : rightP (n, b) = true) (hg : getL L (n, b) = none) (hl : (L.length : Int) = room) :
    Calls Try.prog 22 #[pt (some tb), .agg #[.int .u32 n, .int .i64 b], .int .i64 k] w fun e w' => e = .returned (.int .i64 3) ∧ Below w.heap.size w w' := by
  have hrt := right_any n hn b
  rw [hr] at hrt
  obtain ⟨f, g, h⟩ := h
  have hget := fun W hW => get_not tb base n hn b f g L h.good h.mat W (h.tree.below hW) hg
  have htab := fun (W : World) (hW : Below w.heap.size w W) => (h.tab.keepT (S := SR) (by unfold SR; decide) (KeepT.below hW)).cells
  have HGET := Lib.hid hget
  have HTAB := Lib.hid htab
  have HB := Lib.hid ((Below.refl w.heap.size w).alloc (Nat.le_refl _) (.cells #[.int .u32 n, .int .i64 b] 25))
  have bx := Bx.new w (.int .u32 n) (.int .i64 b)
  have BX := Lib.hid bx
  subst hl
  clear hget htab h hr hg bx
  unfold pt at HGET ⊢
  go_enter Try.func22, Try.ntmps22
  go_wp2_with (first
    | (go_at_call 24; refine (hrt _).mono ?_; rintro e w1 ⟨rfl, hb1⟩; have k5 := BX.out.keep hb1 (by simp); obtain ⟨c0, c1, _, _⟩ := k5.cells; have K5 := Lib.hid k5; have HB1 := Lib.hid (HB.out.trans (hb1.mono (by simp))); clear hb1 k5)
    | (go_at_call 11; refine (HGET.out _ HB1.out).mono ?_; rintro e w2 ⟨rfl, hb2⟩; have hb3 := HB1.out.trans (hb2.mono HB1.out.size); obtain ⟨t3, t4, _⟩ := HTAB.out _ hb3; have HB2 := Lib.hid hb3; clear hb2 hb3))
  go_quiet (fail)
  go_wp2
  go_ret
  exact ⟨rfl, bel_drawn HB2.out _⟩
theorem TabB.setSize {W : World} {b : Nat} {r s : Int} (h : TabB W b r s) (s' : Int) : TabB (W.setCell ⟨b, 4, none⟩ (.int .i64 s')) b r s' := by
  obtain ⟨cs, h, x, y⟩ := h
  have hs : 4 < cs.size := (Array.getElem?_eq_some_iff.1 y).1
  exact ⟨_, heap_setCell_same W b 4 cs _ _ h, by rw [Array.getElem?_setIfInBounds, if_neg (by omega)]; exact x, by rw [Array.getElem?_setIfInBounds, if_pos rfl, if_pos hs]⟩
theorem NodeB.setHigh {W : World} {b c : Nat} {l r e : Option Nat} (h : NodeB W c l r e) (v : Value) : NodeB (W.setCell ⟨b, 4, none⟩ v) c l r e := by
  by_cases hcb : c = b
  · subst hcb
    obtain ⟨cs, T, hh, hT, h0, h1, h2⟩ := h
    exact ⟨_, T, heap_setCell_same W c 4 cs T v hh, hT, by rw [Array.getElem?_setIfInBounds, if_neg (by omega)]; exact h0, by rw [Array.getElem?_setIfInBounds, if_neg (by omega)]; exact h1, by rw [Array.getElem?_setIfInBounds, if_neg (by omega)]; exact h2⟩
  · exact nodeB_other h hcb
theorem Tree.setSize {W : World} {base tb : Nat} {f : Nat → Nat → Option Nat} {g : Nat → Nat → Option (Nat × Int)} (h : Tree W base tb f g) (v : Value) : Tree (W.setCell ⟨tb, 4, none⟩ v) base tb f g :=
  ⟨h.root, h.ok, h.inj, h.par, fun n d b hb => (h.node n d b hb).setHigh v, fun n d eb x hx => by
    obtain ⟨a, b, c⟩ := h.ent n d eb x hx
    exact ⟨a, b, entB_other c (ent_type c (h.node _ _ _ h.root))⟩⟩
theorem Tab.turnsSize {W : World} {base tb : Nat} {r s : Int} {f : Nat → Nat → Option Nat} {g : Nat → Nat → Option (Nat × Int)} (h : Tree W base tb f g) (ht : TabB W tb r s) (v : Value) : Turns base W (W.setCell ⟨tb, 4, none⟩ v) := by
  obtain ⟨cs, hh, _⟩ := ht
  exact ⟨(Below.refl _ _).setCell (p := ⟨tb, 4, none⟩) (h.ok _ _ _ h.root).2.2.2 _, KeepT.setCell hh (by unfold SP; decide) v⟩
/-- Where Put stands behind its size. -/
structure PutAt (w : World) (base tb : Nat) (r s : Int) (n d : Nat) (f : Nat → Nat → Option Nat) (g : Nat → Nat → Option (Nat × Int)) (W : World) : Prop where
  tree : Tree W base tb f g
  tab : TabB W tb r s
  box : Bx W w.heap.size (.int .u32 n) (.int .i64 d)
  turns : Turns base w W
theorem Bx.turns {W W' : World} {k : Nat} {x y : Value} (h : Bx W k x y) {base : Nat} (t : Turns base W W') : Bx W' k x y := t.keep.2 _ _ _ _ (by unfold SP; decide) h
theorem PutAt.below {w : World} {base tb : Nat} {r s : Int} {n d : Nat} {f : Nat → Nat → Option Nat} {g : Nat → Nat → Option (Nat × Int)} {W W' : World} (h : PutAt w base tb r s n d f g W) (hb : base ≤ w.heap.size) (k : Below W.heap.size W W') : PutAt w base tb r s n d f g W' :=
  ⟨h.tree.below k, h.tab.keepT (S := SR) (by unfold SR; decide) (KeepT.below k), h.box.keep k h.box.lt, h.turns.trans (Turns.below k (Nat.le_trans hb h.turns.bel.size))⟩
theorem PutAt.size {w : World} {base tb : Nat} {r s : Int} {n d : Nat} {f : Nat → Nat → Option Nat} {g : Nat → Nat → Option (Nat × Int)} {W : World} (h : PutAt w base tb r s n d f g W) (s' : Int) : PutAt w base tb r s' n d f g (W.setCell ⟨tb, 4, none⟩ (.int .i64 s')) := by
  refine ⟨h.tree.setSize _, h.tab.setSize s', h.box.turns (Tab.turnsSize h.tree h.tab _), h.turns.trans (Tab.turnsSize h.tree h.tab _)⟩
/-- Behind place. -/
def Placed (w : World) (base tb : Nat) (r s : Int) (n d : Nat) (g : Nat → Nat → Option (Nat × Int)) (b : Nat) (W : World) : Prop := ∃ f, PutAt w base tb r s n d f g W ∧ f n d = some b
theorem placed_any {w : World} {base tb : Nat} {r s : Int} {n d : Nat} {f : Nat → Nat → Option Nat} {g : Nat → Nat → Option (Nat × Int)} {W : World} (hn : n < 4294967296) (hd : d ≤ 32) (hm : n % 2 ^ (32 - d) = 0) (h : PutAt w base tb r s n d f g W) (hb : base ≤ w.heap.size) (W' : World) (k : Below W.heap.size W W') :
    Calls Try.prog 34 #[pt (some tb), .agg #[.int .u32 n, .int .i64 d]] W' fun e w' => (∃ b, e = .returned (pt (some b)) ∧ Placed w base tb r s n d g b w' ∧ KeepT SP W' w') := by
  have h' := h.below hb k
  exact (place_any base tb f g r s n d hn hd hm W' h'.tree h'.tab (Nat.le_trans hb h'.turns.bel.size)).mono fun e w' ⟨f', b, he, ht, hf, hT, htu⟩ => ⟨b, he, ⟨f', ⟨ht, hT, h'.box.turns htu, h'.turns.trans htu⟩, hf⟩, htu.keep⟩
/-- The end of Put. -/
def PutEnd (w : World) (base tb : Nat) (room : Int) (L' : List Ent) (W : World) : Prop := TabP W base tb room L' ∧ Turns base w W
theorem Placed.fin {w : World} {base tb : Nat} {r s : Int} {n d : Nat} {g : Nat → Nat → Option (Nat × Int)} {b : Nat} {W : World} (h : Placed w base tb r s n d g b W) (hb : base ≤ w.heap.size) {eb : Nat} {k : Int} (he : EntB W eb n d k) (hbe : base ≤ eb) {L' : List Ent} (hG : Good L') (hM : ∀ x, Match L' (upd g n d (some (x, k)))) (hl : s = L'.length) (hle : (L'.length : Int) ≤ r) (hr : r ≤ 4096) :
    PutEnd w base tb r L' (W.setCell ⟨b, 2, none⟩ (.pointer (some ⟨eb, 0, none⟩))) := by
  obtain ⟨f, h, hf⟩ := h
  have hnode := h.tree.node _ _ _ hf
  have hnb := (h.tree.ok _ _ _ hf).2.2.2
  have t := h.tree.setEnt hf (some (eb, k)) (fun x v e => by injection e with e; injection e with e1 e2; subst e1 e2; exact ⟨hbe, he⟩)
  have tu : Turns base W (W.setCell ⟨b, 2, none⟩ (.pointer (some ⟨eb, 0, none⟩))) := Turns.set hnode hnb _
  subst hl
  exact ⟨⟨f, _, t, h.tab.set (by omega) _, hG, hM eb, hle, hr, Nat.le_trans hb (h.turns.trans tu).bel.size⟩, h.turns.trans tu⟩
theorem Placed.cells {w : World} {base tb : Nat} {r s : Int} {n d : Nat} {g : Nat → Nat → Option (Nat × Int)} {b : Nat} {W : World} (h : Placed w base tb r s n d g b W) : (∃ v, W.cell? ⟨b, 2, none⟩ = some v) ∧ W.frozen? ⟨b, 2, none⟩ = false ∧ b < W.heap.size ∧ W.cell? ⟨w.heap.size, 0, none⟩ = some (.int .u32 n) ∧ W.cell? ⟨w.heap.size, 1, none⟩ = some (.int .i64 d) ∧ w.heap.size < W.heap.size ∧ b ≠ w.heap.size := by
  obtain ⟨f, h, hf⟩ := h
  obtain ⟨_, _, c2, _, _, z2, hl⟩ := (h.tree.node _ _ _ hf).cells
  obtain ⟨d0, d1, _, _⟩ := h.box.cells
  refine ⟨⟨_, c2⟩, z2, hl, d0, d1, h.box.lt, fun e => ?_⟩
  obtain ⟨cs, T, hh, hT, _⟩ := h.tree.node _ _ _ hf
  have hx := h.box
  unfold Bx at hx
  rw [e, hx] at hh
  cases hh
  exact hT (by unfold SP; decide)
theorem Placed.below {w : World} {base tb : Nat} {r s : Int} {n d : Nat} {g : Nat → Nat → Option (Nat × Int)} {b : Nat} {W W' : World} (h : Placed w base tb r s n d g b W) (hb : base ≤ w.heap.size) (k : Below W.heap.size W W') : Placed w base tb r s n d g b W' := by
  obtain ⟨f, h, hf⟩ := h
  exact ⟨f, h.below hb k, hf⟩
theorem Placed.le {w : World} {base tb : Nat} {r s : Int} {n d : Nat} {g : Nat → Nat → Option (Nat × Int)} {b : Nat} {W : World} (h : Placed w base tb r s n d g b W) : w.heap.size ≤ W.heap.size := by
  obtain ⟨f, h, hf⟩ := h
  exact h.turns.bel.size
theorem size_set (w : World) (a : Addr) (v : Value) : (w.setCell a v).heap.size = w.heap.size := by simp
theorem takeD {P : Program} {ops : Array Oper} {Q : Exit → Act → World → Prop} {md : Region.Mode} {S : World → Prop} {i d : Nat} {oi : Oper} {v : Value} {fuel : Nat} {listed : Array Bool} {ts : Array Value} {df : List Deferred} {w : World} (hi : ops[i]? = some oi) (hd : oi.dst = some d)
    (hs : Region.noSelect ops = true) (hf : Region.free md ops listed i = true) (hr : (Region.ready md ops listed).contains i = true)
    (hQ : ∀ c a w, Q (.panic c) (a.put oi.dst v) w → Q (.panic c) a w) (hg : oi.guard = none) (hy : ∀ w, S w → (execOp (Act.eval { tmps := ts, defers := df }) oi).run P w = .ok (.value v) w) (hS : S w)
    (h : wpAnyH P md ops Q S fuel (listed.setIfInBounds i true) { tmps := ts.setIfInBounds d v, defers := df } w) : wpAnyH P md ops Q S (fuel + 1) listed { tmps := ts, defers := df } w := by
  refine wpAnyH_take hi hs hf hr hQ (.inl ⟨by simp [Region.wanted, hg], hy⟩) hS ?_
  unfold Act.put
  rw [hd]
  exact h
set_option maxHeartbeats 4000000 in
set_option maxRecDepth 100000 in
theorem put_is (base tb n : Nat) (hn : n < 4294967296) (d : Nat) (hd : d ≤ 32) (hm : n % 2 ^ (32 - d) = 0) (k m : Int) (room : Int) (L : List Ent) (w : World) (f : Nat → Nat → Option Nat) (g : Nat → Nat → Option (Nat × Int)) (h : Tab w base tb room L f g) (hr : rightP (n, (d : Int)) = true) (hg : getL L (n, (d : Int)) = some m) :
    Calls Try.prog 22 #[pt (some tb), .agg #[.int .u32 n, .int .i64 d], .int .i64 k] w fun e w' => e = .returned (.int .i64 0) ∧ PutEnd w base tb room (putL (n, (d : Int)) k L) w' := by
  have hrt := right_any n hn d
  rw [hr] at hrt
  have hb := h.base
  have hat : PutAt w base tb room L.length n d f g (w.alloc (.cells #[.int .u32 n, .int .i64 d] 25)) := ⟨h.tree.alloc _, h.tab.alloc _, Bx.new _ _ _, (Turns.refl _ _).alloc hb _⟩
  have hfin : ∀ (b eb : Nat) (W : World), Placed w base tb room L.length n d g b W → EntB W eb n d k → base ≤ eb → PutEnd w base tb room (putL (n, (d : Int)) k L) (W.setCell ⟨b, 2, none⟩ (.pointer (some ⟨eb, 0, none⟩))) := fun b eb W hp he hbe => by
    have hlen := putL_length h.good.rises (n, (d : Int)) k
    rw [hg] at hlen
    simp only [Option.isSome_some, if_true] at hlen
    exact hp.fin hb he hbe (h.good.put hr hn k) (fun x => h.mat.set (fun q => getL_put h.good _ q k)) (by omega) (by rw [hlen]; exact h.le) h.room
  have hfina : ∀ (b : Nat) (W : World), Placed w base tb room L.length n d g b W → PutEnd w base tb room (putL (n, (d : Int)) k L) ((W.setCell ⟨b, 2, none⟩ (.pointer (some ⟨W.heap.size, 0, none⟩))).alloc (.cells #[.int .u32 n, .int .i64 d, .int .i64 k] 60)) := fun b W hp => by
    have h1 : Placed w base tb room L.length n d g b (W.alloc (.cells #[.int .u32 n, .int .i64 d, .int .i64 k] 60)) := hp.below hb ((Below.refl _ _).alloc (Nat.le_refl _) _)
    have h2 := hfin b W.heap.size _ h1 (heap_alloc_new W _) (Nat.le_trans hb hp.le)
    rwa [World.setCell_alloc_past _ _ _ _ hp.cells.2.2.1] at h2
  have HFINA := Lib.hid hfina
  have hget := fun W (hW : PutAt w base tb room L.length n d f g W) => get_is tb base n hn d f g L h.good h.mat W hW.tree hg
  have hpl := fun W (hW : PutAt w base tb room L.length n d f g W) => placed_any hn hd hm hW hb
  have HAT := Lib.hid hat
  have HFIN := Lib.hid hfin
  have HGET := Lib.hid hget
  have HPL := Lib.hid hpl
  have HB := Lib.hid hb
  clear hat hfin hfina hget hpl hb h hr hg hm
  unfold pt at HGET HPL ⊢
  simp only [Option.map_some] at HPL
  go_enter Try.func22, Try.ntmps22
  go_wp2_with (first
    | (go_at_call 24; refine (hrt _).mono ?_; rintro e w1 ⟨rfl, hb1⟩; have k5 := HAT.out.below HB.out hb1; obtain ⟨c0, c1, _, _⟩ := k5.box.cells; have K5 := Lib.hid k5; clear hb1 k5)
    | (go_at_call 11; refine (HGET.out _ K5.out).mono ?_; rintro e w2 ⟨rfl, hb2⟩; have k6 := K5.out.below HB.out hb2; obtain ⟨d0, d1, _, _⟩ := k6.box.cells; have z2 := k6.box.lt; have K6 := Lib.hid k6; clear hb2 k6))
  have hplA := HPL.out _ K6.out w2.drew (Below.refl _ _).drew
  have hplB := HPL.out _ K6.out (w2.alloc (.cells #[.int .u32 n, .int .i64 d, .int .i64 k] 60)).drew (((Below.refl _ _).alloc (Nat.le_refl _) _).drew)
  refine wp_region_held_drew (S := fun W => W.cell? ⟨w.heap.size, 0, none⟩ = some (.int .u32 n) ∧ W.cell? ⟨w.heap.size, 1, none⟩ = some (.int .i64 d)) (by kernel_rfl) ⟨d0, d1⟩ (fun hS0 => ?_)
  refine takeD (i := 0) (d := 36) (v := ?vt0) rfl rfl (by kernel_rfl) (by kernel_rfl) (by kernel_rfl) (fun _ _ _ h => h) rfl ?ht0 (by assumption) ?rt0
  case ht0 =>
    intro w hSw
    obtain ⟨s0, s1⟩ := hSw
    go_simp
    try with_reducible rfl
  simp only [List.setIfInBounds_toArray, List.set_cons_zero, List.set_cons_succ]
  refine takeD (i := 1) (d := 37) (v := ?vt1) rfl rfl (by kernel_rfl) (by kernel_rfl) (by kernel_rfl) (fun _ _ _ h => h) rfl ?ht1 (by assumption) ?rt1
  case ht1 =>
    intro w hSw
    obtain ⟨s0, s1⟩ := hSw
    go_simp
    try with_reducible rfl
  simp only [List.setIfInBounds_toArray, List.set_cons_zero, List.set_cons_succ]
  refine takeD (i := 3) (d := 39) (v := ?vt3) rfl rfl (by kernel_rfl) (by kernel_rfl) (by kernel_rfl) (fun _ _ _ h => h) rfl ?ht3 (by assumption) ?rt3
  case ht3 =>
    intro w hSw
    obtain ⟨s0, s1⟩ := hSw
    go_simp
    try with_reducible rfl
  simp only [List.setIfInBounds_toArray, List.set_cons_zero, List.set_cons_succ]
  refine takeD (i := 4) (d := 40) (v := ?vt4) rfl rfl (by kernel_rfl) (by kernel_rfl) (by kernel_rfl) (fun _ _ _ h => h) rfl ?ht4 (by assumption) ?rt4
  case ht4 =>
    intro w hSw
    obtain ⟨s0, s1⟩ := hSw
    go_simp
    try with_reducible rfl
  simp only [List.setIfInBounds_toArray, List.set_cons_zero, List.set_cons_succ]
  refine takeD (i := 5) (d := 41) (v := ?vt5) rfl rfl (by kernel_rfl) (by kernel_rfl) (by kernel_rfl) (fun _ _ _ h => h) rfl ?ht5 (by assumption) ?rt5
  case ht5 =>
    intro w hSw
    obtain ⟨s0, s1⟩ := hSw
    go_simp
    try with_reducible rfl
  simp only [List.setIfInBounds_toArray, List.set_cons_zero, List.set_cons_succ]
  refine wpAnyH_ready (rs := [2, 6]) (by kernel_rfl) (by simp) ?_
  refine AllReadyH.cons rfl (fun K hK => ?_) (AllReadyH.cons rfl (fun K hK => ?_) AllReadyH.nil)
  · go_simp
    go_at_call 34
    with_reducible refine hplA.mono ?_
    rintro e w3 ⟨b, rfl, hp, hkt⟩
    obtain ⟨⟨v0, c2⟩, fz, hbl, x0, x1, z3, hne⟩ := hp.cells
    have HP := Lib.hid hp
    have HKT := Lib.hid hkt
    clear hp hkt hplA hplB
    go_simp
    refine hK.out _ _ ⟨x0, x1⟩ (fun hS1 => ?_)
    clear hK K
    refine wpAnyH_ready (rs := [6]) (by kernel_rfl) (by simp) ?_
    refine AllReadyH.cons rfl (fun K hK => ?_) AllReadyH.nil
    go_simp
    have x2 := (World.cell?_alloc_past (w := w3) (.cells #[.int .u32 n, .int .i64 d, .int .i64 k] 60) _ 0 z3).trans x0
    have x3 := (World.cell?_alloc_past (w := w3) (.cells #[.int .u32 n, .int .i64 d, .int .i64 k] 60) _ 1 z3).trans x1
    refine hK.out _ _ ⟨x2, x3⟩ (fun hS2 => ?_)
    clear hK K
    refine takeD (i := 7) (d := 43) (v := ?va7) rfl rfl (by kernel_rfl) (by kernel_rfl) (by kernel_rfl) (fun _ _ _ h => h) rfl ?ha7 (by assumption) ?ra7
    case ha7 =>
      intro w hSw
      go_simp
      try with_reducible rfl
    simp only [List.setIfInBounds_toArray, List.set_cons_zero, List.set_cons_succ]
    refine takeD (i := 8) (d := 44) (v := ?va8) rfl rfl (by kernel_rfl) (by kernel_rfl) (by kernel_rfl) (fun _ _ _ h => h) rfl ?ha8 (by assumption) ?ra8
    case ha8 =>
      intro w hSw
      go_simp
      try with_reducible rfl
    simp only [List.setIfInBounds_toArray, List.set_cons_zero, List.set_cons_succ]
    refine wpAnyH_ready (rs := [9]) (by kernel_rfl) (by simp) ?_
    refine AllReadyH.cons rfl (fun K hK => ?_) AllReadyH.nil
    go_simp
    have zs : w.heap.size < (w3.setCell ⟨b, 2, none⟩ (.pointer (some ⟨w3.heap.size, 0, none⟩))).heap.size := by rw [size_set]; exact z3
    have y2 := (World.cell?_alloc_past (w := w3.setCell ⟨b, 2, none⟩ (.pointer (some ⟨w3.heap.size, 0, none⟩))) (.cells #[.int .u32 n, .int .i64 d, .int .i64 k] 60) _ 0 zs).trans ((World.cell?_setCell_far w3 ⟨b, 2, none⟩ ⟨w.heap.size, 0, none⟩ _ hne).trans x0)
    have y3 := (World.cell?_alloc_past (w := w3.setCell ⟨b, 2, none⟩ (.pointer (some ⟨w3.heap.size, 0, none⟩))) (.cells #[.int .u32 n, .int .i64 d, .int .i64 k] 60) _ 1 zs).trans ((World.cell?_setCell_far w3 ⟨b, 2, none⟩ ⟨w.heap.size, 1, none⟩ _ hne).trans x1)
    refine hK.out _ _ ⟨y2, y3⟩ (fun hS3 => ?_)
    clear hK K
    refine wpAnyH_done (by kernel_rfl) ?_ _
    clear hS0 hS1 hS2 hS3 x2 x3 y2 y3
    go_wp2
    go_ret
    exact ⟨rfl, HFINA.out b w3 HP.out⟩
  · go_simp
    have x2 := (World.cell?_alloc_past (w := w2) (.cells #[.int .u32 n, .int .i64 d, .int .i64 k] 60) _ 0 z2).trans d0
    have x3 := (World.cell?_alloc_past (w := w2) (.cells #[.int .u32 n, .int .i64 d, .int .i64 k] 60) _ 1 z2).trans d1
    refine hK.out _ _ ⟨x2, x3⟩ (fun hS2 => ?_)
    clear hK K
    refine wpAnyH_ready (rs := [2]) (by kernel_rfl) (by simp) ?_
    refine AllReadyH.cons rfl (fun K hK => ?_) AllReadyH.nil
    go_simp
    go_at_call 34
    with_reducible refine hplB.mono ?_
    rintro e w3 ⟨b, rfl, hp, hkt⟩
    obtain ⟨⟨v0, c2⟩, fz, hbl, x0, x1, z3, hne⟩ := hp.cells
    have HE : Hid (EntB w3 w2.heap.size n d k) := hkt.2 _ _ _ _ (by unfold SP; decide) (heap_alloc_new w2 _)
    have HP := Lib.hid hp
    clear hp hkt hplA hplB
    go_simp
    refine hK.out _ _ ⟨x0, x1⟩ (fun hS1 => ?_)
    clear hK K
    refine takeD (i := 7) (d := 43) (v := ?vb7) rfl rfl (by kernel_rfl) (by kernel_rfl) (by kernel_rfl) (fun _ _ _ h => h) rfl ?hb7 (by assumption) ?rb7
    case hb7 =>
      intro w hSw
      go_simp
      try with_reducible rfl
    simp only [List.setIfInBounds_toArray, List.set_cons_zero, List.set_cons_succ]
    refine takeD (i := 8) (d := 44) (v := ?vb8) rfl rfl (by kernel_rfl) (by kernel_rfl) (by kernel_rfl) (fun _ _ _ h => h) rfl ?hb8 (by assumption) ?rb8
    case hb8 =>
      intro w hSw
      go_simp
      try with_reducible rfl
    simp only [List.setIfInBounds_toArray, List.set_cons_zero, List.set_cons_succ]
    refine wpAnyH_ready (rs := [9]) (by kernel_rfl) (by simp) ?_
    refine AllReadyH.cons rfl (fun K hK => ?_) AllReadyH.nil
    go_simp
    have y2 := (World.cell?_setCell_far w3 ⟨b, 2, none⟩ ⟨w.heap.size, 0, none⟩ (.pointer (some ⟨w2.heap.size, 0, none⟩)) hne).trans x0
    have y3 := (World.cell?_setCell_far w3 ⟨b, 2, none⟩ ⟨w.heap.size, 1, none⟩ (.pointer (some ⟨w2.heap.size, 0, none⟩)) hne).trans x1
    refine hK.out _ _ ⟨y2, y3⟩ (fun hS3 => ?_)
    clear hK K
    refine wpAnyH_done (by kernel_rfl) ?_ _
    clear hS0 hS1 hS2 hS3 x2 x3 y2 y3
    have hb2 := K6.out.turns.bel.size
    go_wp2
    go_ret
    exact ⟨rfl, HFIN.out b w2.heap.size w3 HP.out HE.out (Nat.le_trans HB.out hb2)⟩
set_option maxHeartbeats 4000000 in
set_option maxRecDepth 100000 in
theorem put_new (base tb n : Nat) (hn : n < 4294967296) (d : Nat) (hd : d ≤ 32) (hm : n % 2 ^ (32 - d) = 0) (k : Int) (room : Int) (L : List Ent) (w : World) (f : Nat → Nat → Option Nat) (g : Nat → Nat → Option (Nat × Int)) (h : Tab w base tb room L f g) (hr : rightP (n, (d : Int)) = true) (hg : getL L (n, (d : Int)) = none) (hlt : (L.length : Int) < room) :
    Calls Try.prog 22 #[pt (some tb), .agg #[.int .u32 n, .int .i64 d], .int .i64 k] w fun e w' => e = .returned (.int .i64 0) ∧ PutEnd w base tb room (putL (n, (d : Int)) k L) w' := by
  have hrt := right_any n hn d
  rw [hr] at hrt
  have hb := h.base
  have hat : PutAt w base tb room L.length n d f g (w.alloc (.cells #[.int .u32 n, .int .i64 d] 25)) := ⟨h.tree.alloc _, h.tab.alloc _, Bx.new _ _ _, (Turns.refl _ _).alloc hb _⟩
  have hfin : ∀ (b eb : Nat) (W : World), Placed w base tb room (L.length + 1) n d g b W → EntB W eb n d k → base ≤ eb → PutEnd w base tb room (putL (n, (d : Int)) k L) (W.setCell ⟨b, 2, none⟩ (.pointer (some ⟨eb, 0, none⟩))) := fun b eb W hp he hbe => by
    have hlen := putL_length h.good.rises (n, (d : Int)) k
    rw [hg] at hlen
    simp only [Option.isSome_none, Bool.false_eq_true, if_false] at hlen
    exact hp.fin hb he hbe (h.good.put hr hn k) (fun x => h.mat.set (fun q => getL_put h.good _ q k)) (by rw [hlen]; omega) (by rw [hlen]; omega) h.room
  have hfina : ∀ (b : Nat) (W : World), Placed w base tb room (L.length + 1) n d g b W → PutEnd w base tb room (putL (n, (d : Int)) k L) ((W.setCell ⟨b, 2, none⟩ (.pointer (some ⟨W.heap.size, 0, none⟩))).alloc (.cells #[.int .u32 n, .int .i64 d, .int .i64 k] 60)) := fun b W hp => by
    have h1 : Placed w base tb room (L.length + 1) n d g b (W.alloc (.cells #[.int .u32 n, .int .i64 d, .int .i64 k] 60)) := hp.below hb ((Below.refl _ _).alloc (Nat.le_refl _) _)
    have h2 := hfin b W.heap.size _ h1 (heap_alloc_new W _) (Nat.le_trans hb hp.le)
    rwa [World.setCell_alloc_past _ _ _ _ hp.cells.2.2.1] at h2
  have HFINA := Lib.hid hfina
  have hget := fun W (hW : PutAt w base tb room L.length n d f g W) => get_not tb base n hn d f g L h.good h.mat W hW.tree hg
  have hpl := fun W (hW : PutAt w base tb room (L.length + 1) n d f g W) => placed_any hn hd hm hW hb
  have HAT := Lib.hid hat
  have HFIN := Lib.hid hfin
  have HGET := Lib.hid hget
  have HPL := Lib.hid hpl
  have HB := Lib.hid hb
  have hroom := h.room
  have hl0 : (0 : Int) ≤ L.length := by omega
  have hne2 : decide ((L.length : Int) = room) = false := decide_eq_false (by omega)
  clear hat hfin hfina hget hpl hb h hr hg hm
  unfold pt at HGET HPL ⊢
  simp only [Option.map_some] at HPL
  go_enter Try.func22, Try.ntmps22
  go_wp2_with (first
    | (go_at_call 24; refine (hrt _).mono ?_; rintro e w1 ⟨rfl, hb1⟩; have k5 := HAT.out.below HB.out hb1; obtain ⟨c0, c1, _, _⟩ := k5.box.cells; have K5 := Lib.hid k5; clear hb1 k5)
    | (go_at_call 11; refine (HGET.out _ K5.out).mono ?_; rintro e w2 ⟨rfl, hb2⟩; have k6 := K5.out.below HB.out hb2; obtain ⟨d0, d1, _, _⟩ := k6.box.cells; obtain ⟨t3, t4, _, t5, _⟩ := k6.tab.cells; have z2 := k6.box.lt; have K6 := Lib.hid k6; clear hb2 k6))
  go_quiet (fail)
  have k7 := K6.out.below HB.out (bel_drawn (Below.refl _ _) nq)
  generalize w2.drewN nq = w4 at *
  obtain ⟨t3, t4, _, t5, t6⟩ := k7.tab.cells
  have k8 := k7.size (L.length + 1)
  have K8 := Lib.hid k8
  clear k7 k8 d0 d1 z2 K6
  go_wp2
  have k8 := K8.out
  generalize w4.setCell ⟨tb, 4, none⟩ (.int .i64 (L.length + 1)) = w2 at *
  obtain ⟨d0, d1, _, _⟩ := k8.box.cells
  have z2 := k8.box.lt
  have K6 := Lib.hid k8
  clear k8 K8 t3 t4 t5 t6
  have hplA := HPL.out _ K6.out w2.drew (Below.refl _ _).drew
  have hplB := HPL.out _ K6.out (w2.alloc (.cells #[.int .u32 n, .int .i64 d, .int .i64 k] 60)).drew (((Below.refl _ _).alloc (Nat.le_refl _) _).drew)
  refine wp_region_held_drew (S := fun W => W.cell? ⟨w.heap.size, 0, none⟩ = some (.int .u32 n) ∧ W.cell? ⟨w.heap.size, 1, none⟩ = some (.int .i64 d)) (by kernel_rfl) ⟨d0, d1⟩ (fun hS0 => ?_)
  refine takeD (i := 0) (d := 36) (v := ?vt0) rfl rfl (by kernel_rfl) (by kernel_rfl) (by kernel_rfl) (fun _ _ _ h => h) rfl ?ht0 (by assumption) ?rt0
  case ht0 =>
    intro w hSw
    obtain ⟨s0, s1⟩ := hSw
    go_simp
    try with_reducible rfl
  simp only [List.setIfInBounds_toArray, List.set_cons_zero, List.set_cons_succ]
  refine takeD (i := 1) (d := 37) (v := ?vt1) rfl rfl (by kernel_rfl) (by kernel_rfl) (by kernel_rfl) (fun _ _ _ h => h) rfl ?ht1 (by assumption) ?rt1
  case ht1 =>
    intro w hSw
    obtain ⟨s0, s1⟩ := hSw
    go_simp
    try with_reducible rfl
  simp only [List.setIfInBounds_toArray, List.set_cons_zero, List.set_cons_succ]
  refine takeD (i := 3) (d := 39) (v := ?vt3) rfl rfl (by kernel_rfl) (by kernel_rfl) (by kernel_rfl) (fun _ _ _ h => h) rfl ?ht3 (by assumption) ?rt3
  case ht3 =>
    intro w hSw
    obtain ⟨s0, s1⟩ := hSw
    go_simp
    try with_reducible rfl
  simp only [List.setIfInBounds_toArray, List.set_cons_zero, List.set_cons_succ]
  refine takeD (i := 4) (d := 40) (v := ?vt4) rfl rfl (by kernel_rfl) (by kernel_rfl) (by kernel_rfl) (fun _ _ _ h => h) rfl ?ht4 (by assumption) ?rt4
  case ht4 =>
    intro w hSw
    obtain ⟨s0, s1⟩ := hSw
    go_simp
    try with_reducible rfl
  simp only [List.setIfInBounds_toArray, List.set_cons_zero, List.set_cons_succ]
  refine takeD (i := 5) (d := 41) (v := ?vt5) rfl rfl (by kernel_rfl) (by kernel_rfl) (by kernel_rfl) (fun _ _ _ h => h) rfl ?ht5 (by assumption) ?rt5
  case ht5 =>
    intro w hSw
    obtain ⟨s0, s1⟩ := hSw
    go_simp
    try with_reducible rfl
  simp only [List.setIfInBounds_toArray, List.set_cons_zero, List.set_cons_succ]
  refine wpAnyH_ready (rs := [2, 6]) (by kernel_rfl) (by simp) ?_
  refine AllReadyH.cons rfl (fun K hK => ?_) (AllReadyH.cons rfl (fun K hK => ?_) AllReadyH.nil)
  · go_simp
    go_at_call 34
    with_reducible refine hplA.mono ?_
    rintro e w3 ⟨b, rfl, hp, hkt⟩
    obtain ⟨⟨v0, c2⟩, fz, hbl, x0, x1, z3, hne⟩ := hp.cells
    have HP := Lib.hid hp
    have HKT := Lib.hid hkt
    clear hp hkt hplA hplB
    go_simp
    refine hK.out _ _ ⟨x0, x1⟩ (fun hS1 => ?_)
    clear hK K
    refine wpAnyH_ready (rs := [6]) (by kernel_rfl) (by simp) ?_
    refine AllReadyH.cons rfl (fun K hK => ?_) AllReadyH.nil
    go_simp
    have x2 := (World.cell?_alloc_past (w := w3) (.cells #[.int .u32 n, .int .i64 d, .int .i64 k] 60) _ 0 z3).trans x0
    have x3 := (World.cell?_alloc_past (w := w3) (.cells #[.int .u32 n, .int .i64 d, .int .i64 k] 60) _ 1 z3).trans x1
    refine hK.out _ _ ⟨x2, x3⟩ (fun hS2 => ?_)
    clear hK K
    refine takeD (i := 7) (d := 43) (v := ?va7) rfl rfl (by kernel_rfl) (by kernel_rfl) (by kernel_rfl) (fun _ _ _ h => h) rfl ?ha7 (by assumption) ?ra7
    case ha7 =>
      intro w hSw
      go_simp
      try with_reducible rfl
    simp only [List.setIfInBounds_toArray, List.set_cons_zero, List.set_cons_succ]
    refine takeD (i := 8) (d := 44) (v := ?va8) rfl rfl (by kernel_rfl) (by kernel_rfl) (by kernel_rfl) (fun _ _ _ h => h) rfl ?ha8 (by assumption) ?ra8
    case ha8 =>
      intro w hSw
      go_simp
      try with_reducible rfl
    simp only [List.setIfInBounds_toArray, List.set_cons_zero, List.set_cons_succ]
    refine wpAnyH_ready (rs := [9]) (by kernel_rfl) (by simp) ?_
    refine AllReadyH.cons rfl (fun K hK => ?_) AllReadyH.nil
    go_simp
    have zs : w.heap.size < (w3.setCell ⟨b, 2, none⟩ (.pointer (some ⟨w3.heap.size, 0, none⟩))).heap.size := by rw [size_set]; exact z3
    have y2 := (World.cell?_alloc_past (w := w3.setCell ⟨b, 2, none⟩ (.pointer (some ⟨w3.heap.size, 0, none⟩))) (.cells #[.int .u32 n, .int .i64 d, .int .i64 k] 60) _ 0 zs).trans ((World.cell?_setCell_far w3 ⟨b, 2, none⟩ ⟨w.heap.size, 0, none⟩ _ hne).trans x0)
    have y3 := (World.cell?_alloc_past (w := w3.setCell ⟨b, 2, none⟩ (.pointer (some ⟨w3.heap.size, 0, none⟩))) (.cells #[.int .u32 n, .int .i64 d, .int .i64 k] 60) _ 1 zs).trans ((World.cell?_setCell_far w3 ⟨b, 2, none⟩ ⟨w.heap.size, 1, none⟩ _ hne).trans x1)
    refine hK.out _ _ ⟨y2, y3⟩ (fun hS3 => ?_)
    clear hK K
    refine wpAnyH_done (by kernel_rfl) ?_ _
    clear hS0 hS1 hS2 hS3 x2 x3 y2 y3
    go_wp2
    go_ret
    exact ⟨rfl, HFINA.out b w3 HP.out⟩
  · go_simp
    have x2 := (World.cell?_alloc_past (w := w2) (.cells #[.int .u32 n, .int .i64 d, .int .i64 k] 60) _ 0 z2).trans d0
    have x3 := (World.cell?_alloc_past (w := w2) (.cells #[.int .u32 n, .int .i64 d, .int .i64 k] 60) _ 1 z2).trans d1
    refine hK.out _ _ ⟨x2, x3⟩ (fun hS2 => ?_)
    clear hK K
    refine wpAnyH_ready (rs := [2]) (by kernel_rfl) (by simp) ?_
    refine AllReadyH.cons rfl (fun K hK => ?_) AllReadyH.nil
    go_simp
    go_at_call 34
    with_reducible refine hplB.mono ?_
    rintro e w3 ⟨b, rfl, hp, hkt⟩
    obtain ⟨⟨v0, c2⟩, fz, hbl, x0, x1, z3, hne⟩ := hp.cells
    have HE : Hid (EntB w3 w2.heap.size n d k) := hkt.2 _ _ _ _ (by unfold SP; decide) (heap_alloc_new w2 _)
    have HP := Lib.hid hp
    clear hp hkt hplA hplB
    go_simp
    refine hK.out _ _ ⟨x0, x1⟩ (fun hS1 => ?_)
    clear hK K
    refine takeD (i := 7) (d := 43) (v := ?vb7) rfl rfl (by kernel_rfl) (by kernel_rfl) (by kernel_rfl) (fun _ _ _ h => h) rfl ?hb7 (by assumption) ?rb7
    case hb7 =>
      intro w hSw
      go_simp
      try with_reducible rfl
    simp only [List.setIfInBounds_toArray, List.set_cons_zero, List.set_cons_succ]
    refine takeD (i := 8) (d := 44) (v := ?vb8) rfl rfl (by kernel_rfl) (by kernel_rfl) (by kernel_rfl) (fun _ _ _ h => h) rfl ?hb8 (by assumption) ?rb8
    case hb8 =>
      intro w hSw
      go_simp
      try with_reducible rfl
    simp only [List.setIfInBounds_toArray, List.set_cons_zero, List.set_cons_succ]
    refine wpAnyH_ready (rs := [9]) (by kernel_rfl) (by simp) ?_
    refine AllReadyH.cons rfl (fun K hK => ?_) AllReadyH.nil
    go_simp
    have y2 := (World.cell?_setCell_far w3 ⟨b, 2, none⟩ ⟨w.heap.size, 0, none⟩ (.pointer (some ⟨w2.heap.size, 0, none⟩)) hne).trans x0
    have y3 := (World.cell?_setCell_far w3 ⟨b, 2, none⟩ ⟨w.heap.size, 1, none⟩ (.pointer (some ⟨w2.heap.size, 0, none⟩)) hne).trans x1
    refine hK.out _ _ ⟨y2, y3⟩ (fun hS3 => ?_)
    clear hK K
    refine wpAnyH_done (by kernel_rfl) ?_ _
    clear hS0 hS1 hS2 hS3 x2 x3 y2 y3
    have hb2 := K6.out.turns.bel.size
    go_wp2
    go_ret
    exact ⟨rfl, HFIN.out b w2.heap.size w3 HP.out HE.out (Nat.le_trans HB.out hb2)⟩
theorem put_any (base tb n : Nat) (hn : n < 4294967296) (b : Int) (k : Int) (room : Int) (L : List Ent) (w : World) (h : TabP w base tb room L) :
    Calls Try.prog 22 #[pt (some tb), .agg #[.int .u32 n, .int .i64 b], .int .i64 k] w fun e w' => e = .returned (.int .i64 (putE room L (n, b))) ∧ PutEnd w base tb room (putA room L (n, b) k) w' := by
  have hb : base ≤ w.heap.size := by obtain ⟨f, g, h⟩ := h; exact h.base
  have same : ∀ w', Below w.heap.size w w' → PutEnd w base tb room L w' := fun w' hw => ⟨h.below hw, Turns.below hw hb⟩
  cases hr : rightP (n, b) with
  | false =>
    have e : putE room L (n, b) = 1 := by unfold putE; rw [hr]; rfl
    unfold putA
    rw [e]
    exact (put_bad base tb n hn b k w hr).mono fun e w' ⟨he, hw⟩ => ⟨he, same w' hw⟩
  | true =>
    by_cases hf : getL L (n, b) = none ∧ (L.length : Int) = room
    · have e : putE room L (n, b) = 3 := by unfold putE; rw [hr, if_pos rfl, if_pos hf]
      unfold putA
      rw [e]
      exact (put_full base tb n hn b k room L w h hr hf.1 hf.2).mono fun e w' ⟨he, hw⟩ => ⟨he, same w' hw⟩
    · have e : putE room L (n, b) = 0 := by unfold putE; rw [hr, if_pos rfl, if_neg hf]
      unfold putA
      rw [e, if_pos rfl]
      obtain ⟨d, he, hd, hm⟩ := right_cases hr
      simp only [Prod.mk.injEq, true_and] at he
      subst he
      obtain ⟨f, g, h⟩ := h
      cases hg : getL L (n, (d : Int)) with
      | some m => exact put_is base tb n hn d hd hm k m room L w f g h hr hg
      | none => exact put_new base tb n hn d hd hm k room L w f g h hr hg (by have := h.le; have : ¬ (L.length : Int) = room := fun e => hf ⟨hg, e⟩; omega)
end Go.Proofs.Ytpoognkppnplpaa
