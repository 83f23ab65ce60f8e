/-
  THE PROGRAM'S alive: the iterator over the pieces that are not over.
-/
import Derived.Test.YtpaooddmgcekhaaGreatVGet
import Derived.Test.YtpaooddmgcekhaaGreatVSort
import Derived.RangeFuncKeeps
namespace Go.Proofs.YtpaooddmgcekhaaGreat.ti
set_option linter.unusedSimpArgs false
set_option linter.unusedVariables false
open Go.RowKit Go.Shelf
attribute [local go_sem] Oper.semAt_some
def keepA (T : TypeId) : Prop := T = 33 ∨ T = 24 ∨ T = 3
/-- What a loop's body leaves alone. -/
structure KeepA (n₀ : Nat) (W W' : World) : Prop where
  bel : Below n₀ W W'
  ids : ∀ (k : Nat) (cs : Array Value) (T : TypeId) (fr : Nat × Nat), keepA T → W.heap[k]? = some (.cells cs T fr) → W'.heap[k]? = some (.cells cs T fr)
theorem KeepA.trans {n₀ : Nat} {A B C : World} (h : KeepA n₀ A B) (k : KeepA n₀ B C) : KeepA n₀ A C := ⟨h.bel.trans k.bel, fun j cs T fr hT hj => k.ids j cs T fr hT (h.ids j cs T fr hT hj)⟩
theorem KeepA.putObj {n₀ : Nat} {w : World} (hn : n₀ ≤ w.heap.size) (W : World) (l : Nat) (o o' : Obj) (hl : w.heap.size ≤ l) (h : W.heap[l]? = some o) (hc : o.isCells = false) (hw : o.isWalk = false) : KeepA n₀ W (W.putObj l o') :=
  ⟨belowK_b hn W l o o' hl h hc hw, fun k cs T fr _ hk => by
    have hne : l ≠ k := fun e => by rw [← e, h] at hk; cases hk; cases hc
    show (W.heap.setIfInBounds l o')[k]? = _
    rw [Array.getElem?_setIfInBounds_ne hne]
    exact hk⟩
theorem KeepA.of_below {n₀ : Nat} {W W' : World} (hn : n₀ ≤ W.heap.size) (h : Below W.heap.size W W') : KeepA n₀ W W' := ⟨h.mono hn, fun k cs T fr _ hk => KeepC.below h k cs T fr hk⟩
/-- A row, or a box, of another kind is turned. -/
theorem KeepA.grown {n₀ : Nat} {W W' : World} {row : Option Nat} (hn : n₀ ≤ W.heap.size) (h : W.grownBy W' row) (hr : ∀ r, row = some r → n₀ ≤ r ∧ ∃ cs T fr, W.heap[r]? = some (.cells cs T fr) ∧ ¬ keepA T) : KeepA n₀ W W' :=
  ⟨(Below.refl n₀ W).grown h hn (fun j e => (hr j e).1), fun k cs T fr hT hk => by
    rw [h.block k (Array.getElem?_eq_some_iff.1 hk).1 (fun e => by obtain ⟨_, cs', T', fr', hb, hq⟩ := hr k e.symm; rw [hb] at hk; cases hk; exact hq hT)]
    exact hk⟩
/-- A piece that is told, its lists where the base has them. -/
abbrev ElA (ws : World) (n0 : Nat) := { x : TiV × Sl2 // Own2 ws n0 x.1 x.2 }
def encA {ws : World} {n0 : Nat} (x : ElA ws n0) : Array Value := #[.agg #[.int .i64 x.1.1.hd.id.d, .int .i64 x.1.1.hd.id.o, .int .i64 x.1.1.hd.id.k, .int .i64 x.1.1.hd.id.n, .int .i64 x.1.1.hd.seq, .int .i64 x.1.1.hd.life, .int .i64 x.1.1.level, .bool x.1.1.over, .slice x.1.2.ea x.1.1.es.length x.1.2.ec, .slice x.1.2.ra x.1.1.rs.length x.1.2.rc]]
def toldL {ws : World} {n0 : Nat} (l : List (ElA ws n0)) : List TiV := l.map fun x => x.1.1
theorem allD_next {K : List EnT} {k : Nat} {x : EnT} (hk : K[k]? = some x) (now : Int) : allD (K.take (k + 1)) now = allD (K.take k) now ++ (if isD x now then [toldD x now] else []) := by
  unfold allD aliveD
  rw [List.take_add_one, hk]
  simp only [Option.toList, List.filter_append, List.map_append]
  congr 1
  by_cases q : isD x now
  · simp [q]
  · simp [q]
theorem got_is {K : List EnT} (h : AscD K) {k : Nat} {x : EnT} (hk : K[k]? = some x) (now : Int) : getD K x.id now = if isD x now then (toldD x now, true) else (TiV.nil, false) := findD_got (find_mem h (List.mem_of_getElem? hk)) now
theorem toldL_snoc {ws : World} {n0 : Nat} (l : List (ElA ws n0)) (x : ElA ws n0) : toldL (l ++ [x]) = toldL l ++ [x.1.1] := by unfold toldL; rw [List.map_append]; rfl
set_option maxRecDepth 100000 in
set_option maxHeartbeats 8000000 in
theorem alive_in (ws : World) (n0 pb mb : Nat) (room : Int) (K : List EnT) (h : ProgD ws n0 pb mb room K) (now : Int) (hlen : K.length ≤ 4000) (n l B1 B2 : Nat) (J Jx : List (ElA ws n0) → World → Prop)
    (hY : ∀ pre x W, J pre W → pre.length < K.length + 1 → YieldAt Fence.wide (n - 1) Tryz.prog l (encA x) W fun e W' => (e = .returned (.bool true) ∧ J (pre ++ [x]) W' ∧ KeepA ws.heap.size W W') ∨ (e = .returned (.bool false) ∧ Jx (pre ++ [x]) W'))
    (W : World) (hW : Below ws.heap.size ws W) (hJ : AbidesFrom W.heap.size J) (b1 : Arr W B1 24 [.pointer (some ⟨pb, 0, none⟩)]) (b2 : Arr W B2 3 [.int .i64 now]) (h0 : J [] W) :
    CallsIn Fence.wide n Tryz.prog 45 #[.func (.yield l) #[] #[], .pointer (some ⟨B1, 0, none⟩), .pointer (some ⟨B2, 0, none⟩)] W fun e W' => (∃ v, e = .returned v) ∧
      ((∃ xs, toldL xs = allD K now ∧ J xs W') ∨ (∃ pre, True ∧ Jx pre W')) := by
  obtain ⟨L, hL, hp, hO⟩ := h.has
  have hlt := h.lt
  have hinv := h.inv
  have hA : AscI (K.map EnT.id) := by show List.Pairwise _ _; rw [List.pairwise_map]; exact hinv.asc
  have hll : (L.map entK).length ≤ 4000 := by have := hp.length_eq; rw [List.length_map] at this ⊢; omega
  have HKY : Hid (∀ W1, Calls Tryz.prog 47 #[.map (some mb)] W1 fun e w' => e = .returned (.func (.func 63) #[] #[.pointer (some ⟨W1.heap.size, 0, none⟩)]) ∧ w' = W1.alloc (.cells #[.map (some mb)] 59)) := fun W1 => keys_any mb W1
  have HSF : Hid (∀ Bm W1, Below ws.heap.size ws W1 → Bm < W1.heap.size → W1.cell? ⟨Bm, 0, none⟩ = some (.map (some mb)) → Calls Tryz.prog 46 #[.func (.func 63) #[] #[.pointer (some ⟨Bm, 0, none⟩)], .func (.func 44) #[] #[]] W1 fun e w' => (∃ v, e = .returned v ∧ OwnE 33 4 cellsI w' W1.heap.size v (K.map EnT.id)) ∧ Below W1.heap.size W1 w') := fun Bm W1 hb hBm hm => sortedfunc_any mb Bm (L.map entK) (K.map EnT.id) hA (ids_of hp) hll W1 hBm hm (hL.same (hb.block _ hlt.2))
  have HFD : Hid (∀ W1 x, Below ws.heap.size ws W1 → x ∈ K → Calls Tryz.prog 32 #[.pointer (some ⟨pb, 0, none⟩), .agg #[.int .i64 x.id.d, .int .i64 x.id.o, .int .i64 x.id.k, .int .i64 x.id.n], .int .i64 now] W1 (FindE L K x.id now W1)) := fun W1 x hb hx => dfindL (h.below hb) (hL.same (hb.block _ hlt.2)) hp (fun y hy => (⟨(hO y hy).e.below hb, (hO y hy).r.below hb⟩)) x.id (h.okI x hx) now
  have HC1 : Hid (∀ W1, Below ws.heap.size ws W1 → W1.cell? ⟨pb, 1, none⟩ = some (.map (some mb))) := fun W1 hb => (h.below hb).cells.2
  have hdd : ∀ k : Nat, (Fence.wide.depth.isSome = true → 1 ≤ k) := fun k h => by cases h
  obtain ⟨len, hlen2⟩ : ∃ len, K.length = len := ⟨_, rfl⟩
  have HLN := Lib.hid hlen2
  have HAS := Lib.hid hinv.asc
  have HO := Lib.hid hO
  have HY := Lib.hid hY
  have HJ := Lib.hid hJ
  have HW := Lib.hid hW
  have H0 := Lib.hid h0
  have HB1 := Lib.hid b1
  have HB2 := Lib.hid b2
  have c1 : W.cell? ⟨B1, 0, none⟩ = some (.pointer (some ⟨pb, 0, none⟩)) := b1.cell 0
  have k1 := HC1.out W hW
  have hidl : (K.map EnT.id).length = len := by rw [List.length_map, hlen2]
  have HIL := Lib.hid hidl
  rw [hlen2] at hlen
  clear h hL hp hO hA hll hinv hY hJ hW h0 b1 b2 hlen2 hidl
  refine callsIn_of_wp Tryz.func45 rfl trivial ?_ rfl
  simp only [Tryz.ntmps45, List.size_toArray, List.length_cons, List.length_nil, Nat.reduceAdd, Nat.reduceSub, Array.replicate_succ, Array.replicate_zero, List.push_toArray, List.append_toArray, List.nil_append, List.cons_append]
  gi_wp2_with (first
    | (refine ⟨trivial, hdd _, ?_⟩; gi_at_call 47; refine (callsIn_wide.2 (HKY.out _)).mono ?_; rintro e w1 ⟨rfl, hw1⟩; have HW1 := Lib.hid hw1; clear hw1)
    | (refine ⟨trivial, hdd _, ?_⟩; gi_at_call 46; refine (callsIn_wide.2 (HSF.out W.heap.size w1 (by rw [HW1.out]; exact HW.out.alloc HW.out.size _) (by rw [HW1.out]; simp) (by rw [HW1.out]; exact (Arr.new W 59 [.map (some mb)]).cell 0))).mono ?_; rintro e w2 ⟨⟨v, rfl, ho⟩, hb2⟩; obtain ⟨A2, k2, rfl, _⟩ := ho.shape; have HOV := Lib.hid ho; have HBB : Hid (Below W.heap.size W w2) := (by have q : Below W.heap.size W w1 := (by rw [HW1.out]; exact (Below.refl _ _).alloc (Nat.le_refl _) _); exact q.trans (hb2.mono q.size)); have HZ2 : Hid (W.heap.size ≤ w1.heap.size) := (by rw [HW1.out]; unfold Hid; simp); clear ho hb2))
  rw [HIL.out] at HOV
  rw [HLN.out]
  have HB1' : Hid (Arr w2 B1 24 [.pointer (some ⟨pb, 0, none⟩)]) := HB1.out.below HBB.out HB1.out.lt
  have HB2' : Hid (Arr w2 B2 3 [.int .i64 now]) := HB2.out.below HBB.out HB2.out.lt
  have HJ2 : Hid (J [] w2) := HJ.out [] W w2 none H0.out (grown_below HBB.out none) (fun r e => by cases e)
  have HW2 : Hid (Below ws.heap.size ws w2) := HW.out.trans (HBB.out.mono HW.out.size)
  have HWS : Hid (W.heap.size ≤ w2.heap.size) := HBB.out.size
  have HOV2 : Hid (OwnE 33 4 cellsI w2 W.heap.size (.slice A2 len k2) (K.map EnT.id)) := HOV.out.mono HZ2.out
  clear c1 k1 HOV HB1 HB2 HBB HZ2 HW1 HKY HSF HC1 H0
  gi_loopw [15] (fun iv wr => ∃ (k : Nat) (ps : List (ElA ws n0)), k ≤ len ∧ iv = .int .i64 k ∧ RowKit.Hid (toldL ps = allD (K.take k) now ∧ ps.length ≤ k) ∧ RowKit.Hid (J ps wr) ∧ RowKit.Hid (Below ws.heap.size ws wr ∧ Arr wr B1 24 [.pointer (some ⟨pb, 0, none⟩)] ∧ Arr wr B2 3 [.int .i64 now] ∧ OwnE 33 4 cellsI wr W.heap.size (.slice A2 len k2) (K.map EnT.id) ∧ W.heap.size ≤ wr.heap.size))
    (fun iv _ => len - (intOf iv).toNat)
  case atStart => exact ⟨0, [], by omega, rfl, ⟨rfl, Nat.le_refl _⟩, HJ2, ⟨HW2.out, HB1'.out, HB2'.out, HOV2.out, HWS.out⟩⟩
  case round =>
    obtain ⟨k, ps, hk, rfl, HT, HJs, HR⟩ := hrel
    clear HB1' HB2' HOV2 HW2 HWS HJ2
    by_cases hlt2 : k < len
    · obtain ⟨x, hx⟩ : ∃ x, K[k]? = some x := ⟨_, List.getElem?_eq_getElem (by have := HLN.out; omega)⟩
      have HXK := Lib.hid (List.mem_of_getElem? hx)
      have HNX := Lib.hid (allD_next hx now)
      have hg := got_is HAS.out hx now
      obtain ⟨g0, o0, hA2, hg0, hr0⟩ := kindI.rd HR.out.2.2.2.1 k x.id (by rw [List.getElem?_map, hx]; rfl)
      subst hA2
      have x0 : wr.cell? ⟨g0, o0 + k * 4, none⟩ = some (.int .i64 x.id.d) := hr0 0 _ rfl
      have x1 : wr.cell? ⟨g0, o0 + k * 4 + 1, none⟩ = some (.int .i64 x.id.o) := hr0 1 _ rfl
      have x2 : wr.cell? ⟨g0, o0 + k * 4 + 2, none⟩ = some (.int .i64 x.id.k) := hr0 2 _ rfl
      have x3 : wr.cell? ⟨g0, o0 + k * 4 + 3, none⟩ = some (.int .i64 x.id.n) := hr0 3 _ rfl
      obtain ⟨wa, hwa⟩ : ∃ wa, wr.alloc (.cells #[.int .i64 x.id.d, .int .i64 x.id.o, .int .i64 x.id.k, .int .i64 x.id.n] 33) = wa := ⟨_, rfl⟩
      have ba : Below wr.heap.size wr wa := by rw [← hwa]; exact (Below.refl _ _).alloc (Nat.le_refl _) _
      have aI : Arr wa wr.heap.size 33 [.int .i64 x.id.d, .int .i64 x.id.o, .int .i64 x.id.k, .int .i64 x.id.n] := by rw [← hwa]; exact Arr.new wr _ _
      have hBW : Below ws.heap.size ws wa := HR.out.1.trans (ba.mono HR.out.1.size)
      have aB1 := HR.out.2.1.below ba HR.out.2.1.lt
      have aB2 := HR.out.2.2.1.below ba HR.out.2.2.1.lt
      have i0 : wa.cell? ⟨wr.heap.size, 0, none⟩ = some (.int .i64 x.id.d) := aI.cell 0
      have i1 : wa.cell? ⟨wr.heap.size, 1, none⟩ = some (.int .i64 x.id.o) := aI.cell 1
      have i2 : wa.cell? ⟨wr.heap.size, 2, none⟩ = some (.int .i64 x.id.k) := aI.cell 2
      have i3 : wa.cell? ⟨wr.heap.size, 3, none⟩ = some (.int .i64 x.id.n) := aI.cell 3
      have p1 : wa.cell? ⟨B1, 0, none⟩ = some (.pointer (some ⟨pb, 0, none⟩)) := aB1.cell 0
      have p2 : wa.cell? ⟨B2, 0, none⟩ = some (.int .i64 now) := aB2.cell 0
      have HBW := Lib.hid hBW
      have HAB : Hid (Arr wa B1 24 [.pointer (some ⟨pb, 0, none⟩)] ∧ Arr wa B2 3 [.int .i64 now] ∧ OwnE 33 4 cellsI wa W.heap.size (.slice (some ⟨g0, o0, none⟩) len k2) (K.map EnT.id) ∧ W.heap.size ≤ wa.heap.size) := ⟨aB1, aB2, HR.out.2.2.2.1.below ba, Nat.le_trans HR.out.2.2.2.2 ba.size⟩
      have HJa : Hid (J ps wa) := HJ.out ps wr wa none HJs.out (grown_below ba none) (fun r e => by cases e)
      have HFX := Lib.hid (HFD.out wa x hBW HXK.out)
      unfold FindE at HFX
      rw [hg] at HFX
      clear hr0 hx hg ba aI hBW aB1 aB2 HR HJs HFD
      by_cases hal : isD x now
      · rw [if_pos hal] at HFX HNX
        dsimp only at HFX
        obtain ⟨T, hT⟩ : ∃ T, toldD x now = T := ⟨_, rfl⟩
        rw [hT] at HFX HNX
        unfold aggV at HFX
        clear hal
        gi_wp2_with (first
          | (refine ⟨trivial, hdd _, ?_⟩; gi_at_call 32; refine (callsIn_wide.2 HFX.out).mono ?_; rintro e w5 ⟨s, rfl, hr5, hb5, hown⟩; have hyo : Own2 ws n0 T s := (by obtain ⟨y, hy, e1, e2⟩ := hown rfl; subst e2; rw [e1]; exact ⟨(HO.out y hy).e, (HO.out y hy).r⟩); have hb6 : Below wa.heap.size wa (w5.alloc (.cells #[.int .i64 T.hd.id.d, .int .i64 T.hd.id.o, .int .i64 T.hd.id.k, .int .i64 T.hd.id.n, .int .i64 T.hd.seq, .int .i64 T.hd.life, .int .i64 T.level, .bool T.over, .slice s.ea T.es.length s.ec, .slice s.ra T.rs.length s.rc] 39)) := hb5.alloc hb5.size _; have hJ6 : J ps (w5.alloc (.cells #[.int .i64 T.hd.id.d, .int .i64 T.hd.id.o, .int .i64 T.hd.id.k, .int .i64 T.hd.id.n, .int .i64 T.hd.seq, .int .i64 T.hd.life, .int .i64 T.level, .bool T.over, .slice s.ea T.es.length s.ec, .slice s.ra T.rs.length s.rc] 39)) := HJ.out ps wa _ none HJa.out (grown_below hb6 none) (fun r e => by cases e); have HB6 := Lib.hid hb6; have HJ6 := Lib.hid hJ6; have A6 : Arr (w5.alloc (.cells #[.int .i64 T.hd.id.d, .int .i64 T.hd.id.o, .int .i64 T.hd.id.k, .int .i64 T.hd.id.n, .int .i64 T.hd.seq, .int .i64 T.hd.life, .int .i64 T.level, .bool T.over, .slice s.ea T.es.length s.ec, .slice s.ra T.rs.length s.rc] 39)) w5.heap.size 39 [.int .i64 T.hd.id.d, .int .i64 T.hd.id.o, .int .i64 T.hd.id.k, .int .i64 T.hd.id.n, .int .i64 T.hd.seq, .int .i64 T.hd.life, .int .i64 T.level, .bool T.over, .slice s.ea T.es.length s.ec, .slice s.ra T.rs.length s.rc] := Arr.new w5 _ _; have t0 : (w5.alloc (.cells #[.int .i64 T.hd.id.d, .int .i64 T.hd.id.o, .int .i64 T.hd.id.k, .int .i64 T.hd.id.n, .int .i64 T.hd.seq, .int .i64 T.hd.life, .int .i64 T.level, .bool T.over, .slice s.ea T.es.length s.ec, .slice s.ra T.rs.length s.rc] 39)).cell? ⟨w5.heap.size, 0, none⟩ = some (.int .i64 T.hd.id.d) := A6.cell 0; have t1 : (w5.alloc (.cells #[.int .i64 T.hd.id.d, .int .i64 T.hd.id.o, .int .i64 T.hd.id.k, .int .i64 T.hd.id.n, .int .i64 T.hd.seq, .int .i64 T.hd.life, .int .i64 T.level, .bool T.over, .slice s.ea T.es.length s.ec, .slice s.ra T.rs.length s.rc] 39)).cell? ⟨w5.heap.size, 1, none⟩ = some (.int .i64 T.hd.id.o) := A6.cell 1; have t2 : (w5.alloc (.cells #[.int .i64 T.hd.id.d, .int .i64 T.hd.id.o, .int .i64 T.hd.id.k, .int .i64 T.hd.id.n, .int .i64 T.hd.seq, .int .i64 T.hd.life, .int .i64 T.level, .bool T.over, .slice s.ea T.es.length s.ec, .slice s.ra T.rs.length s.rc] 39)).cell? ⟨w5.heap.size, 2, none⟩ = some (.int .i64 T.hd.id.k) := A6.cell 2; have t3 : (w5.alloc (.cells #[.int .i64 T.hd.id.d, .int .i64 T.hd.id.o, .int .i64 T.hd.id.k, .int .i64 T.hd.id.n, .int .i64 T.hd.seq, .int .i64 T.hd.life, .int .i64 T.level, .bool T.over, .slice s.ea T.es.length s.ec, .slice s.ra T.rs.length s.rc] 39)).cell? ⟨w5.heap.size, 3, none⟩ = some (.int .i64 T.hd.id.n) := A6.cell 3; have t4 : (w5.alloc (.cells #[.int .i64 T.hd.id.d, .int .i64 T.hd.id.o, .int .i64 T.hd.id.k, .int .i64 T.hd.id.n, .int .i64 T.hd.seq, .int .i64 T.hd.life, .int .i64 T.level, .bool T.over, .slice s.ea T.es.length s.ec, .slice s.ra T.rs.length s.rc] 39)).cell? ⟨w5.heap.size, 4, none⟩ = some (.int .i64 T.hd.seq) := A6.cell 4; have t5 : (w5.alloc (.cells #[.int .i64 T.hd.id.d, .int .i64 T.hd.id.o, .int .i64 T.hd.id.k, .int .i64 T.hd.id.n, .int .i64 T.hd.seq, .int .i64 T.hd.life, .int .i64 T.level, .bool T.over, .slice s.ea T.es.length s.ec, .slice s.ra T.rs.length s.rc] 39)).cell? ⟨w5.heap.size, 5, none⟩ = some (.int .i64 T.hd.life) := A6.cell 5; have t6 : (w5.alloc (.cells #[.int .i64 T.hd.id.d, .int .i64 T.hd.id.o, .int .i64 T.hd.id.k, .int .i64 T.hd.id.n, .int .i64 T.hd.seq, .int .i64 T.hd.life, .int .i64 T.level, .bool T.over, .slice s.ea T.es.length s.ec, .slice s.ra T.rs.length s.rc] 39)).cell? ⟨w5.heap.size, 6, none⟩ = some (.int .i64 T.level) := A6.cell 6; have t7 : (w5.alloc (.cells #[.int .i64 T.hd.id.d, .int .i64 T.hd.id.o, .int .i64 T.hd.id.k, .int .i64 T.hd.id.n, .int .i64 T.hd.seq, .int .i64 T.hd.life, .int .i64 T.level, .bool T.over, .slice s.ea T.es.length s.ec, .slice s.ra T.rs.length s.rc] 39)).cell? ⟨w5.heap.size, 7, none⟩ = some (.bool T.over) := A6.cell 7; have t8 : (w5.alloc (.cells #[.int .i64 T.hd.id.d, .int .i64 T.hd.id.o, .int .i64 T.hd.id.k, .int .i64 T.hd.id.n, .int .i64 T.hd.seq, .int .i64 T.hd.life, .int .i64 T.level, .bool T.over, .slice s.ea T.es.length s.ec, .slice s.ra T.rs.length s.rc] 39)).cell? ⟨w5.heap.size, 8, none⟩ = some (.slice s.ea T.es.length s.ec) := A6.cell 8; have t9 : (w5.alloc (.cells #[.int .i64 T.hd.id.d, .int .i64 T.hd.id.o, .int .i64 T.hd.id.k, .int .i64 T.hd.id.n, .int .i64 T.hd.seq, .int .i64 T.hd.life, .int .i64 T.level, .bool T.over, .slice s.ea T.es.length s.ec, .slice s.ra T.rs.length s.rc] 39)).cell? ⟨w5.heap.size, 9, none⟩ = some (.slice s.ra T.rs.length s.rc) := A6.cell 9; obtain ⟨fn, tmps, assign, body, hy, hRR⟩ := HY.out ps ⟨(T, s), hyo⟩ _ hJ6 (by have := HT.out.2; have := HLN.out; omega); dsimp only [encA] at hy; have HRR := Lib.hid hRR; clear hr5 hb5 hown hb6 hJ6 A6 hRR))
        refine ⟨hdd _, HRR.out.mono ?_⟩
        rintro e W7 (⟨rfl, hJ7, hk7⟩ | ⟨rfl, hJx⟩)
        · have HB7 : Hid (Below ws.heap.size ws W7) := (HBW.out.trans (HB6.out.mono HBW.out.size)).trans hk7.bel
          have HA7 : Hid (Arr W7 B1 24 [.pointer (some ⟨pb, 0, none⟩)] ∧ Arr W7 B2 3 [.int .i64 now] ∧ OwnE 33 4 cellsI W7 W.heap.size (.slice (some ⟨g0, o0, none⟩) len k2) (K.map EnT.id) ∧ W.heap.size ≤ W7.heap.size) := by
            obtain ⟨q1, q2, q3, q4⟩ := HAB.out
            have r1 := q1.below HB6.out q1.lt
            have r2 := q2.below HB6.out q2.lt
            have r3 := q3.below HB6.out
            refine ⟨hk7.ids _ _ _ _ (.inr (.inl rfl)) r1, hk7.ids _ _ _ _ (.inr (.inr rfl)) r2, r3.same fun g hg => ?_, Nat.le_trans q4 (Nat.le_trans HB6.out.size hk7.bel.size)⟩
            obtain ⟨cur, hcur⟩ := r3.block hg
            rw [hcur]
            exact hk7.ids _ _ _ _ (.inl rfl) hcur
          have HJ7 := Lib.hid hJ7
          have HT7 : Hid (toldL (ps ++ [⟨(T, s), hyo⟩]) = allD (K.take (k + 1)) now ∧ (ps ++ [(⟨(T, s), hyo⟩ : ElA ws n0)]).length ≤ k + 1) := ⟨by rw [toldL_snoc, HNX.out, HT.out.1], by have := HT.out.2; simp; omega⟩
          clear hJ7 hk7 HRR HY
          generalize ps ++ [(⟨(T, s), hyo⟩ : ElA ws n0)] = qs at *
          gi_wp2
          go_roundw
          case rel => exact ⟨k + 1, qs, by omega, by go_num, HT7.out, HJ7.out, ⟨HB7.out, HA7.out⟩⟩
          case measure => simp [intOf]; omega
        · have HJ7 := Lib.hid hJx
          clear hJx HRR HY
          gi_wp2
          refine bodyPost_ret (results_none rfl _ _ _) rfl ?_
          exact ⟨⟨_, rfl⟩, .inr ⟨_, trivial, HJ7.out⟩⟩
      · rw [if_neg hal] at HFX HNX
        dsimp only at HFX
        rw [List.append_nil] at HNX
        unfold aggV TiV.nil at HFX
        dsimp only [List.length_nil] at HFX
        clear hal HY
        gi_wp2_with (first
          | (refine ⟨trivial, hdd _, ?_⟩; gi_at_call 32; refine (callsIn_wide.2 HFX.out).mono ?_; rintro e w5 ⟨s, rfl, hr5, hb5, -⟩; have hb6 : Below wa.heap.size wa (w5.alloc (.cells #[.int .i64 0, .int .i64 0, .int .i64 0, .int .i64 0, .int .i64 0, .int .i64 0, .int .i64 0, .bool false, .slice s.ea 0 s.ec, .slice s.ra 0 s.rc] 39)) := hb5.alloc hb5.size _; have hJ6 : J ps (w5.alloc (.cells #[.int .i64 0, .int .i64 0, .int .i64 0, .int .i64 0, .int .i64 0, .int .i64 0, .int .i64 0, .bool false, .slice s.ea 0 s.ec, .slice s.ra 0 s.rc] 39)) := HJ.out ps wa _ none HJa.out (grown_below hb6 none) (fun r e => by cases e); have HB6 := Lib.hid hb6; have HJ6 := Lib.hid hJ6; clear hr5 hb5 hb6 hJ6))
        refine ⟨fun _ h => (by cases h), ?_⟩
        gi_wp2
        go_roundw
        case rel => exact ⟨k + 1, ps, by omega, by go_num, ⟨by rw [HNX.out]; exact HT.out.1, by have := HT.out.2; omega⟩, HJ6.out, ⟨HBW.out.trans (HB6.out.mono HBW.out.size), HAB.out.1.below HB6.out HAB.out.1.lt, HAB.out.2.1.below HB6.out HAB.out.2.1.lt, HAB.out.2.2.1.below HB6.out, Nat.le_trans HAB.out.2.2.2 HB6.out.size⟩⟩
        case measure => simp [intOf]; omega
    · obtain rfl : k = len := by omega
      have HTE : Hid (toldL ps = allD K now) := by have := HT.out.1; rw [← HLN.out, List.take_length] at this; exact this
      gi_wp2
      go_end0
      exact ⟨⟨_, rfl⟩, .inl ⟨ps, HTE.out, HJs.out⟩⟩
end Go.Proofs.YtpaooddmgcekhaaGreat.ti
