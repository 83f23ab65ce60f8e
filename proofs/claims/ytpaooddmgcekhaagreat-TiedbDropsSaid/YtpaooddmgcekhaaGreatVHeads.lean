/-
  THE PROGRAM'S Heads.
-/
import Derived.Test.YtpaooddmgcekhaaGreatVAlive
import Derived.RangeFuncBox
import Derived.RangeFuncNested
import Derived.Maps.AppendAt
namespace Go.Proofs.YtpaooddmgcekhaaGreat.ti
set_option linter.unusedSimpArgs false
set_option linter.unusedVariables false
open Go.RowKit Go.Shelf
attribute [local go_sem] Oper.semAt_some
set_option maxHeartbeats 800000 in
set_option maxRecDepth 100000 in
theorem alive_any (pb : Nat) (now : Int) (w : World) : Calls Tryz.prog 28 #[.pointer (some ⟨pb, 0, none⟩), .int .i64 now] w fun e w' => e = .returned (.func (.func 45) #[] #[.pointer (some ⟨w.heap.size, 0, none⟩), .pointer (some ⟨w.heap.size + 1, 0, none⟩)]) ∧ (w.alloc (.cells #[.pointer (some ⟨pb, 0, none⟩)] 24)).alloc (.cells #[.int .i64 now] 3) = w' := by
  go_enter Tryz.func28, Tryz.ntmps28
  go_wp2
  go_ret
  exact ⟨rfl, rfl⟩
theorem alive_stops (ws : World) (n0 pb mb : Nat) (room : Int) (K : List EnT) (h : ProgD ws n0 pb mb room K) (now : Int) (hlen : K.length ≤ 4000) (n B1 B2 : Nat) (W0 : World) (hb : Below ws.heap.size ws W0) (b1 : Arr W0 B1 24 [.pointer (some ⟨pb, 0, none⟩)]) (b2 : Arr W0 B2 3 [.int .i64 now]) :
    SeqStopsK Fence.wide n Tryz.prog 45 #[.pointer (some ⟨B1, 0, none⟩), .pointer (some ⟨B2, 0, none⟩)] (encA (ws := ws) (n0 := n0)) (KeepA ws.heap.size) (fun xs => toldL xs = allD K now) (fun _ => True) (K.length + 1) W0 := fun l J Jx W hW hJ _ hY h0 =>
  alive_in ws n0 pb mb room K h now hlen n l B1 B2 J Jx hY W (hb.trans (hW.mono hb.size)) hJ (b1.below hW b1.lt) (b2.below hW b2.lt) h0
/-- Where the loop of a collecting function stands. -/
structure BoxAt {E : Type} (sl T : TypeId) (sz : Nat) (enc : E → List Value) (w w1 : World) (pre : List E) (v : Value) (W : World) : Prop where
  box : Boxed W w.heap.size sl v
  own : OwnE T sz enc W w.heap.size v pre
  bel : Below w.heap.size w W
  size : w1.heap.size ≤ W.heap.size
theorem BoxAt.ownr {E : Type} {sl T : TypeId} {sz : Nat} {enc : E → List Value} {w w1 : World} {pre : List E} {v : Value} {W W' : World} {row : Option Nat} (h : BoxAt sl T sz enc w w1 pre v W) (hg : W.grownBy W' row) (hr : ∀ r, row = some r → w1.heap.size ≤ r ∧ ∃ o : Obj, W.heap[r]? = some o ∧ o.isCells = false) (hw : w.heap.size ≤ w1.heap.size) : BoxAt sl T sz enc w w1 pre v W' := by
  refine ⟨block_own h.box hg (fun r e => (hr r e).2), ?_, h.bel.grown hg h.bel.size (fun j hj => by have := (hr j hj).1; omega), Nat.le_trans h.size hg.size⟩
  refine h.own.same fun g hgv => ?_
  obtain ⟨cur, hcur⟩ := h.own.block hgv
  exact hg.block g (Array.getElem?_eq_some_iff.1 hcur).1 (fun e => by obtain ⟨_, o, ho, hc⟩ := hr g e.symm; rw [hcur] at ho; cases ho; cases hc)
def encHA {ws : World} {n0 : Nat} (x : ElA ws n0) : List Value := [.int .i64 x.1.1.hd.id.d, .int .i64 x.1.1.hd.id.o, .int .i64 x.1.1.hd.id.k, .int .i64 x.1.1.hd.id.n, .int .i64 x.1.1.hd.seq, .int .i64 x.1.1.hd.life]
theorem kindHA (ws : World) (n0 : Nat) : KindE 47 35 6 48 (.agg #[.int .i64 0, .int .i64 0, .int .i64 0, .int .i64 0, .int .i64 0, .int .i64 0]) (encHA (ws := ws) (n0 := n0)) := ⟨by kernel_rfl, by kernel_rfl, rfl, by decide, fun _ => rfl, fun x u hu => by simp [encHA] at hu; rcases hu with rfl | rfl | rfl | rfl | rfl | rfl <;> rfl⟩
theorem kindT : KindE 47 35 6 48 (.agg #[.int .i64 0, .int .i64 0, .int .i64 0, .int .i64 0, .int .i64 0, .int .i64 0]) cellsT := ⟨by kernel_rfl, by kernel_rfl, rfl, by decide, fun _ => rfl, fun x u hu => by simp [cellsT] at hu; rcases hu with rfl | rfl | rfl | rfl | rfl | rfl <;> rfl⟩
theorem cellHA_new {ws : World} {n0 : Nat} (W : World) (x : ElA ws n0) : ∀ (j : Nat) (u : Value), (encHA x)[j]? = some u → (W.alloc (.cells #[.int .i64 x.1.1.hd.id.d, .int .i64 x.1.1.hd.id.o, .int .i64 x.1.1.hd.id.k, .int .i64 x.1.1.hd.id.n, .int .i64 x.1.1.hd.seq, .int .i64 x.1.1.hd.life] 35)).cell? ((⟨W.heap.size, 0, none⟩ : Addr).add j) = some u := fun j u hu => by
  rw [add_off, Nat.zero_add]
  exact ((Arr.new W 35 (encHA x)).cell j).trans hu
theorem KeepA.appended {E : Type} {enc : E → List Value} {sz : Nat} {W w1 : World} {tmp : Obj} {n₀ B : Nat} {t e : TypeId} {v v' : Value} {l : List E} (hn : n₀ ≤ W.heap.size) (hB : n₀ ≤ B) (hbox : Boxed w1 B t v) (hte : ¬ keepA t) (hee : ¬ keepA e) (hrow : OwnE e sz enc (W.alloc tmp) n₀ v l) (hgrow : (W.alloc tmp).grownBy w1 v.ownBlock) : KeepA n₀ W (w1.setCell ⟨B, 0, none⟩ v') := by
  have s1 : n₀ ≤ (W.alloc tmp).heap.size := by simp; omega
  have k1 : KeepA n₀ W (W.alloc tmp) := KeepA.of_below hn ((Below.refl _ _).alloc (Nat.le_refl _) _)
  have k2 : KeepA n₀ (W.alloc tmp) w1 := KeepA.grown s1 hgrow fun r e => by
    obtain ⟨cur, hcur⟩ := hrow.block e
    exact ⟨(World.ownsRow.lt hrow r e).1, _, _, _, hcur, hee⟩
  have s2 : n₀ ≤ w1.heap.size := Nat.le_trans s1 hgrow.size
  have k3 : KeepA n₀ w1 (w1.setCell ⟨B, 0, none⟩ v') := KeepA.grown s2 (grownBy_setCell' w1 B v') fun r e => by
    cases e
    exact ⟨hB, _, _, _, hbox, hte⟩
  exact (k1.trans k2).trans k3
theorem headsD_eq {K : List EnT} (now : Int) : headsD K now = (allD K now).map TiV.hd := by
  unfold headsD allD
  rw [List.map_map]
  rfl
theorem heads_own {ws : World} {n0 : Nat} {W : World} {base : Nat} {v : Value} {xs : List (ElA ws n0)} {K : List EnT} {now : Int} (h : OwnE 35 6 encHA W base v xs) (hx : toldL xs = allD K now) : OwnE 35 6 cellsT W base v (headsD K now) := by
  have e : xs.map (fun x => x.1.1.hd) = headsD K now := by rw [headsD_eq, ← hx]; unfold toldL; rw [List.map_map]; rfl
  unfold OwnE at h ⊢
  rw [← e, List.length_map]
  have : rowE cellsT (xs.map fun x => x.1.1.hd) = rowE encHA xs := by unfold rowE; rw [List.flatMap_map]; rfl
  rw [this]
  exact h
set_option maxRecDepth 100000 in
set_option maxHeartbeats 8000000 in
theorem dheads_any {w : World} {n0 pb mb : Nat} {room : Int} {K : List EnT} (h : ProgD w n0 pb mb room K) (now : Int) (hlen : K.length ≤ 4000) :
    Calls Tryz.prog 14 #[.pointer (some ⟨pb, 0, none⟩), .int .i64 now] w fun e w' => (∃ v, e = .returned v ∧ OwnE 35 6 cellsT w' w.heap.size v (headsD K now)) ∧ Below w.heap.size w w' := by
  refine (callsIn_wide (n := 3)).1 ?_
  have h1 : 1 ≤ 3 := by decide
  have hdd : ∀ k : Nat, (Fence.wide.depth.isSome = true → 1 ≤ k) := fun k h => by cases h
  refine callsIn_of_wp_marks Tryz.func14 rfl trivial ?_ rfl
  simp only [Tryz.ntmps14, List.size_toArray, List.length_cons, List.length_nil, Nat.reduceAdd, Nat.reduceSub, Array.replicate_succ, Array.replicate_zero, List.push_toArray, List.append_toArray, List.nil_append, List.cons_append]
  gi_wp2_with (first
    | (refine ⟨trivial, hdd _, ?_⟩; gi_at_call 28; refine (callsIn_wide.2 (alive_any _ _ _)).mono ?_; rintro e w1 ⟨rfl, hw1⟩; have HW1 := Lib.hid hw1; clear hw1)
    | (refine ⟨trivial, ?_⟩; gi_at_call 28; refine (callsIn_wide.2 (alive_any _ _ _)).mono ?_; rintro e w1 ⟨rfl, hw1⟩; have HW1 := Lib.hid hw1; clear hw1))
  obtain ⟨W3, hW3⟩ : ∃ W3, w.alloc (.cells #[.slice none 0 0] 47) = W3 := ⟨_, rfl⟩
  have hs3 : W3.heap.size = w.heap.size + 1 := by rw [← hW3]; simp
  have hw1 := HW1.out
  rw [hW3] at hw1
  have b3 : Below w.heap.size w W3 := by rw [← hW3]; exact (Below.refl _ _).alloc (Nat.le_refl _) _
  have hsz : w1.heap.size = w.heap.size + 1 + 1 + 1 := by rw [← hw1]; simp [hs3]
  have a1 : Arr w1 W3.heap.size 24 [.pointer (some ⟨pb, 0, none⟩)] := by rw [← hw1]; exact (Arr.new W3 _ _).alloc _
  have a2 : Arr w1 (W3.heap.size + 1) 3 [.int .i64 now] := by
    rw [← hw1]
    have := Arr.new (W3.alloc (.cells #[.pointer (some ⟨pb, 0, none⟩)] 24)) 3 [.int .i64 now]
    rwa [show (W3.alloc (.cells #[.pointer (some ⟨pb, 0, none⟩)] 24)).heap.size = W3.heap.size + 1 from by simp] at this
  have bw1 : Below w.heap.size w w1 := by rw [← hw1]; exact (b3.alloc b3.size _).alloc (by have := b3.size; simp; omega) _
  have hst := alive_stops w n0 pb mb room K h now hlen 2 W3.heap.size (W3.heap.size + 1) w1 bw1 a1 a2
  have g1 : BoxAt 47 35 6 (encHA (ws := w) (n0 := n0)) w w1 [] (.slice none 0 0) w1 := by
    refine ⟨?_, OwnE.nil _ _, bw1, Nat.le_refl _⟩
    rw [← hw1, ← hW3]; exact ((Boxed.new w 47 (.slice none 0 0)).alloc _).alloc _
  obtain ⟨i0, hi, hz0, hz1, hz2⟩ := info_parts (kindHA w n0).info
  rw [hs3] at hst
  have HSZ := Lib.hid hsz
  clear hw1 HW1 hW3 b3 h hs3 hsz a1 a2 bw1
  refine wpIn_rangeFunc_ownH rfl h1 (gf := 45) (lb := #[.pointer (some ⟨w.heap.size + 1, 0, none⟩), .pointer (some ⟨w.heap.size + 1 + 1, 0, none⟩)]) rfl trivial (enters_of Tryz.func45 (by kernel_rfl) rfl)
    hst KeepA.trans (fun W l o o' hl h hc hw => KeepA.putObj (w := w1) (by have := HSZ.out; omega) W l o o' hl h hc hw) (Below.refl _ _) (fun _ => rfl)
    (fun pre W => ∃ v, BoxAt 47 35 6 (encHA (ws := w) (n0 := n0)) w w1 pre v W)
    (fun _ _ _ => False)
    (fun s W W' row hs hg hr => by
      obtain ⟨v, hv⟩ := hs
      exact ⟨v, hv.ownr hg (fun r e => hr r e) (by have := HSZ.out; omega)⟩)
    (fun c s W W' row hs hg hr => hs)
    ⟨_, g1⟩
    (fun x a' W => ∃ k, w1.heap.size ≤ k ∧ Arr W k 39 [.int .i64 x.1.1.hd.id.d, .int .i64 x.1.1.hd.id.o, .int .i64 x.1.1.hd.id.k, .int .i64 x.1.1.hd.id.n, .int .i64 x.1.1.hd.seq, .int .i64 x.1.1.hd.life, .int .i64 x.1.1.level, .bool x.1.1.over, .slice x.1.2.ea x.1.1.es.length x.1.2.ec, .slice x.1.2.ra x.1.1.rs.length x.1.2.rc] ∧ a' = { tmps := #[.pointer (some ⟨pb, 0, none⟩), .int .i64 now, undef, undef, .slice none 0 0, .pointer (some ⟨w.heap.size, 0, none⟩), .pointer (some ⟨k, 0, none⟩), .pointer (some ⟨pb, 0, none⟩), .int .i64 now, .func (.func 45) #[] #[.pointer (some ⟨w.heap.size + 1, 0, none⟩), .pointer (some ⟨w.heap.size + 1 + 1, 0, none⟩)], .agg #[.int .i64 x.1.1.hd.id.d, .int .i64 x.1.1.hd.id.o, .int .i64 x.1.1.hd.id.k, .int .i64 x.1.1.hd.id.n, .int .i64 x.1.1.hd.seq, .int .i64 x.1.1.hd.life, .int .i64 x.1.1.level, .bool x.1.1.over, .slice x.1.2.ea x.1.1.es.length x.1.2.ec, .slice x.1.2.ra x.1.1.rs.length x.1.2.rc], undef, undef, undef, undef, undef, undef], defers := [] })
    (fun x a' s W W' row hs hg hr => by
      obtain ⟨k, hk, hb, ha⟩ := hs
      exact ⟨k, hk, block_own hb hg (fun r e => (hr r e).2), ha⟩) ?assign ?body ?done ?stop
  case assign =>
    rintro l pre x W K ⟨v, hG⟩ hK
    simp only [encA]
    gi_wp2
    have hsw := hG.size
    have hw := hG.bel.size
    exact hK _ _ ((KeepsOthers.alloc _ _).from _) (KeepA.of_below hw ((Below.refl _ W).alloc (Nat.le_refl _) _)) ⟨v, hG.box.alloc _, hG.own.below ((Below.refl _ _).alloc (Nat.le_refl _) _), hG.bel.alloc hw _, by simp; omega⟩ ⟨W.heap.size, hsw, heap_alloc_new W _, rfl⟩
  case body =>
    rintro l pre x a' W hl _ ⟨v, hG⟩ ⟨k, hk, hE, rfl⟩ hpl
    have e0 : W.cell? ⟨k, 0, none⟩ = some (.int .i64 x.1.1.hd.id.d) := hE.cell 0
    have e1 : W.cell? ⟨k, 1, none⟩ = some (.int .i64 x.1.1.hd.id.o) := hE.cell 1
    have e2 : W.cell? ⟨k, 2, none⟩ = some (.int .i64 x.1.1.hd.id.k) := hE.cell 2
    have e3 : W.cell? ⟨k, 3, none⟩ = some (.int .i64 x.1.1.hd.id.n) := hE.cell 3
    have e4 : W.cell? ⟨k, 4, none⟩ = some (.int .i64 x.1.1.hd.seq) := hE.cell 4
    have e5 : W.cell? ⟨k, 5, none⟩ = some (.int .i64 x.1.1.hd.life) := hE.cell 5
    have q0 := hG.box.cell
    have HG := Lib.hid hG
    have hbs := hG.bel.size
    clear hG hE
    gi_wp2_with (gi_at_builtin; skip; refine Hid.out ?_)
    refine Lib.hid ?_
    have hrow := HG.out.own
    unfold OwnE at hrow
    refine wpListIn_append_own _ rfl _ _ 47 rfl w.heap.size 35 i0 (.agg #[.int .i64 0, .int .i64 0, .int .i64 0, .int .i64 0, .int .i64 0, .int .i64 0]) 6 48 Tryz.underlying47 hi hz0 hz1 hz2 rfl (by decide) _ _ _ rfl (hrow.alloc _) ⟨W.heap.size, 0, none⟩ 1 1 (encHA x) rfl rfl (cellHA_new W x) ((kindHA w n0).one x) (by unfold maxLen; omega) (by omega) (by simp; omega) ?_
    intro v' w2 hown' hgrow _
    obtain ⟨hv1, hv2, hr2, hk2, hb2⟩ := HG.out.box.appended (by decide) hrow hbs (Nat.le_refl _) hown' hgrow
    have HN : Hid (BoxAt 47 35 6 (encHA (ws := w) (n0 := n0)) w w1 (pre ++ [x]) v' (w2.setCell ⟨w.heap.size, 0, none⟩ v')) := by
      refine ⟨hv2, OwnE.snoc hr2, HG.out.bel.trans hb2, Nat.le_trans HG.out.size hk2.size⟩
    have HKW : Hid (KeepA w.heap.size W (w2.setCell ⟨w.heap.size, 0, none⟩ v')) := KeepA.appended hbs (Nat.le_refl _) hv1 (by unfold keepA; decide) (by unfold keepA; decide) (HG.out.own.below ((Below.refl _ _).alloc (Nat.le_refl _) _)) hgrow
    have HK := Lib.hid hk2
    obtain ⟨A2, m2, c2, rfl⟩ := HN.out.own.form2
    have hc1 := hv1.cell
    have hf1 := hv1.frozen
    clear hown' hgrow hr2 hk2 hb2 hv1 hv2 hrow
    gi_wp2
    exact ⟨HK.out.from _, HKW.out, _, HN.out⟩
  case done =>
    rintro D ys W hD hS ⟨v, hF⟩ hK
    have q0 := hF.box.cell
    have HF := Lib.hid hF
    have hSZ := HSZ.out
    clear hF
    gi_wp2
    refine ⟨by simp, .inl ⟨_, _, rfl, run_takeDeferred hK, ?_⟩⟩
    have hf2 := HF.out.ownr (grownBy_putObj' _ D (.deferred none)) (fun r e => by cases e; exact ⟨hD, _, hK, rfl⟩) (by omega)
    exact ⟨_, results_tmp rfl _ _ _, ⟨v, rfl, heads_own hf2.own hS⟩, hf2.bel⟩
  case stop =>
    rintro D c pre W hD hpre h _
    exact h.elim
end Go.Proofs.YtpaooddmgcekhaaGreat.ti
