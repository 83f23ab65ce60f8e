/-
  THE PROGRAM s Unpack: it ranges over the iterator and collects: the numbers with a sign of "scan", if their bytes are all there are; else none, and ErrForm; what was there is as it was.
-/
import Derived.Test.YtkjckljighploaaAids
namespace Go.Proofs.Ytkjckljighploaa
open Go.RowKit Go.Shelf
attribute [local go_sem] Oper.semAt_some
theorem Try.info3 : (Try.prog.info? 3).map (fun i => (i.zero, i.size, i.bytes)) = some (some (.int .i64 0), 1, 8) := by kernel_rfl

/-- The numbers with a sign, and how many bytes they had. -/
def zags (l : List Num) : List Int := l.map fun q => zagI q.n
def used (l : List Num) : Nat := l.foldr (fun q s => q.k + s) 0
theorem zags_snoc (l : List Num) (q : Num) : zags (l ++ [q]) = zags l ++ [zagI q.n] := by simp [zags]
theorem used_snoc (l : List Num) (q : Num) : used (l ++ [q]) = used l + q.k := by
  unfold used
  induction l with
  | nil => simp
  | cons x l ih => simp only [List.cons_append, List.foldr_cons, ih]; omega
theorem used_le (l : List Num) : used l ≤ 10 * l.length := by
  unfold used
  induction l with
  | nil => simp
  | cons x l ih => have := x.hk; simp only [List.foldr_cons, List.length_cons]; omega

theorem own_mono {w : World} {base base' : Nat} {e : TypeId} {size n : Nat} {v : Value} {xs : List Value} (h : w.ownsRow base e size v n xs) (hb : base' ≤ base) : w.ownsRow base' e size v n xs :=
  ⟨h.1, h.2.imp id fun ⟨g, cap, cur, hv, hg, rest⟩ => ⟨g, cap, cur, hv, by omega, rest⟩⟩
theorem own_ne {w : World} {base : Nat} {e : TypeId} {size n : Nat} {v : Value} {xs : List Value} (h : w.ownsRow base e size v n xs) {k : Nat} (hk : k < base) : some k ≠ v.ownBlock := fun e => by
  have := (h.lt k e.symm).1
  omega

/-- One append within a round's region that draws its order. -/
theorem stepIn_append {F : Fence} {n : Nat} {P : Program} {ops : Array Oper} {o : Oper} {a : Act} {w : World} {K : Act → World → Prop} {Q : Exit → Act → World → Prop} {E : Prop}
    (hgd : o.guard = none) (s x : Operand) (t : TypeId) (ho : o.op = .call { callee := .builtin .append, args := #[s, x], argTypes := #[t, t] })
    (base : Nat) (e : TypeId) (i : TypeInfo) (z : Value) (size bytes : Nat) (ht : P.underlying t = some (.slice e)) (hi : P.info? e = some i) (hz : i.zero = some z)
    (hsize : i.size = size) (hby : i.bytes = bytes) (hzs : z.cells.size = size) (hsz : 0 < size)
    (v : Value) (k : Nat) (xs : List Value) (hs : a.eval s = v) (hown : w.ownsRow base e size v k xs)
    (ad : Addr) (m c : Nat) (news : List Value) (hx : a.eval x = .slice (some ad) m c) (hl : news.length = m * size) (hnews : ∀ j u, news[j]? = some u → w.cell? (ad.add j) = some u) (h1 : ∀ u ∈ news, u.oneCell' = true)
    (h63 : k + m ≤ maxLen) (hbytes : (k + m) * bytes ≤ 140737488355328) (hbase : base ≤ w.heap.size)
    (h : ∀ v' w', w'.ownsRow base e size v' (k + m) (xs ++ news) → w.grownBy w' v.ownBlock → K (a.put o.dst v') w') :
    if Region.wanted o (yielded ops a.tmps) = true then o.wpIn F n P a w K Q else E := by
  rw [if_pos (by simp [Region.wanted, hgd])]
  obtain ⟨v', w', hr, h2, h3, _⟩ := run_append_own (P := P) w base t o.type e i z size bytes ht hi hz hsize hby hzs hsz v k xs hown ad m c news hl hnews h1 h63 hbytes hbase
  unfold Oper.wpIn
  refine ⟨by simp [Oper.about, ho, resolve, Target.leads, Sem.run_pure], ?_⟩
  rw [Oper.semAt_plain F _ _ (by rw [ho]; intro c hc'; cases hc')]
  simp [execOp, ho, resolve, invoke, builtin, hs, hx, hr, Result.andThen]
  exact h v' w' h2 h3

set_option maxRecDepth 100000 in
set_option maxHeartbeats 4000000 in
theorem unpack_any (a : Option Addr) (cap : Nat) (zs : List Int) (hlen : zs.length ≤ 100000) (hbs : Bytes zs) (w : World) (hr : Rd .u8 w.heap.size w a zs) :
    Calls Try.prog 19 #[.slice a zs.length cap] w fun e w' => (if used (scan 0 0 zs) = zs.length then ∃ v, e = .returned (.tuple #[v, .int .i64 0]) ∧ w'.ownsRow w.heap.size 3 1 v (zags (scan 0 0 zs)).length ((zags (scan 0 0 zs)).map (Value.int .i64)) else e = .returned (.tuple #[.slice none 0 0, .int .i64 2])) ∧ Below w.heap.size w w' := by
  refine (callsIn_wide (n := 3)).1 ?_
  have h1 : 1 ≤ 3 := by decide
  obtain ⟨i0, hi, hz0, hz1, hz2⟩ := info_parts Try.info3
  refine callsIn_of_wp_marks Try.func19 rfl trivial ?_ rfl
  simp only [Try.ntmps19, List.size_toArray, List.length_cons, List.length_nil, Nat.reduceAdd, Nat.reduceSub, Array.replicate_succ, Array.replicate_zero, List.push_toArray, List.append_toArray, List.nil_append, List.cons_append]
  gi_wp2_with (refine ⟨trivial, ?_⟩; gi_at_call 23; refine (callsIn_wide.2 (numbers_any _ _ _ _)).mono ?_; rintro e w' ⟨rfl, rfl⟩)
  obtain ⟨W0, hW0⟩ : ∃ W0, ((w.alloc (.cells #[.slice none 0 0] 32)).alloc (.cells #[.int .i64 0] 3)).alloc (.cells #[.slice a zs.length cap] 24) = W0 := ⟨_, rfl⟩
  have hsz : W0.heap.size = w.heap.size + 3 := by rw [← hW0]; simp
  have hB0 : Below w.heap.size w W0 := by rw [← hW0]; exact (((Below.refl _ w).alloc (Nat.le_refl _) _).alloc (by simp) _).alloc (by simp; omega) _
  have b0 : Boxed W0 w.heap.size 32 (.slice none 0 0) := by rw [← hW0]; exact ((Boxed.new w 32 (.slice none 0 0)).alloc _).alloc _
  have b1 : Boxed W0 (w.heap.size + 1) 3 (.int .i64 0) := by
    rw [← hW0]
    have h := ((Boxed.new (w.alloc (.cells #[.slice none 0 0] 32)) 3 (.int .i64 0)).alloc (.cells #[.slice a zs.length cap] 24))
    simpa using h
  have b2 : Boxed W0 (w.heap.size + 1 + 1) 24 (.slice a zs.length cap) := by
    rw [← hW0]
    have h := (Boxed.new ((w.alloc (.cells #[.slice none 0 0] 32)).alloc (.cells #[.int .i64 0] 3)) 24 (.slice a zs.length cap))
    simpa using h
  rw [hW0]
  clear hW0
  refine wpIn_rangeFunc_ownG rfl h1 (gf := 24) (lb := #[.pointer (some ⟨w.heap.size + 1 + 1, 0, none⟩)]) rfl trivial (enters_of Try.func24 (by kernel_rfl) rfl)
    (nums_stops (w.heap.size + 1 + 1) w.heap.size a cap zs (by omega) hbs W0 (by omega) (by omega) b2.cell (hr.below hB0)) belowK_t (belowK_b (by omega)) (Below.refl _ _) (fun _ => rfl)
    (fun pre W => ((∃ v, Boxed W w.heap.size 32 v ∧ W.ownsRow (w.heap.size + 3) 3 1 v pre.length ((zags pre).map (Value.int .i64)) ∧ True) ∧ Boxed W (w.heap.size + 1) 3 (.int .i64 (used pre : Nat))) ∧ Below w.heap.size W0 W)
    (fun _ _ _ => False)
    (OwnFrom.and (OwnFrom.and (Own.from (holdsRow_own (w.heap.size + 3) w.heap.size 32 3 1 (fun pre => pre.length) (fun pre => (zags pre).map (Value.int .i64)) (fun _ _ => True)) _) (Own.from (boxed_own (w.heap.size + 1) 3 (fun pre => Value.int .i64 (used pre : Nat))) _)) (ownFrom_below (by omega) (by omega)))
    (fun _ _ _ _ _ hs _ _ => hs)
    ⟨⟨⟨_, b0, World.ownsRow_nil _ _ _ _, trivial⟩, b1⟩, Below.refl _ _⟩
    (fun x => { tmps := #[.slice a zs.length cap, undef, .slice none 0 0, .int .i64 0, .pointer (some ⟨w.heap.size, 0, none⟩), .pointer (some ⟨w.heap.size + 1, 0, none⟩), .int .u64 x.n, .int .i64 x.k, .slice a zs.length cap, .func (.func 24) #[] #[.pointer (some ⟨w.heap.size + 1 + 1, 0, none⟩)], .int .u64 x.n, .int .i64 x.k, undef, undef, undef, undef, undef, undef, undef, undef, undef, undef, undef, undef, undef], defers := [] }) ?assign ?body ?done ?stop
  case assign =>
    intro l x W K hK
    gi_wp2
    exact hK
  case body =>
    rintro l pre x W ⟨⟨⟨v, hv, hrow, _⟩, hu⟩, hB⟩ hlt
    have hc := hv.cell
    gi_wp2
    refine wpIn_region_any (by kernel_rfl) ?_
    change wpAnyIn _ _ _ _ _ _ _ _ _ (World.drew _)
    have hxn := x.hn
    have hxk := x.hk
    have hub := used_le pre
    have hzl1 : pre.length + 1 ≤ maxLen := by unfold maxLen; omega
    have hWs := hB.size
    have hk2s := x.hk
    have hca := (hv.alloc (.cells #[.int .i64 (zagI x.n)] 3)).cell
    refine wpAnyIn_ready (rs := [0, 1]) (by kernel_rfl) (by simp) ?_
    refine AllReadyIn.cons rfl (fun K hK => ?_) (AllReadyIn.cons rfl (fun K hK => ?_) AllReadyIn.nil)
    · go_simp
      refine hK _ _ ?_
      clear hK K
      refine wpAnyIn_ready (rs := [1]) (by kernel_rfl) (by simp) ?_
      refine AllReadyIn.cons rfl (fun K hK => ?_) AllReadyIn.nil
      go_simp
      refine hK _ _ ?_
      clear hK K
      refine wpAnyIn_ready (rs := [2]) (by kernel_rfl) (by simp) ?_
      refine AllReadyIn.cons rfl (fun K hK => ?_) AllReadyIn.nil
      go_simp
      refine ⟨trivial, ?_⟩
      refine (CallsIn.inRound l (callsIn_wide.2 (zag_any x.n hxn _))).mono ?_
      rintro e w' ⟨rfl, rfl⟩
      refine hK _ _ ?_
      clear hK K
      refine wpAnyIn_ready (rs := [3]) (by kernel_rfl) (by simp) ?_
      refine AllReadyIn.cons rfl (fun K hK => ?_) AllReadyIn.nil
      go_simp
      refine hK _ _ ?_
      clear hK K
      refine wpAnyIn_ready (rs := [4]) (by kernel_rfl) (by simp) ?_
      refine AllReadyIn.cons rfl (fun K hK => ?_) AllReadyIn.nil
      refine stepIn_append rfl (.tmp 12) (.tmp 15) 32 rfl (w.heap.size + 3) 3 i0 (.int .i64 0) 1 8 Try.underlying32 hi hz0 hz1 hz2 rfl (by decide) v _ _ rfl (hrow.alloc (.cells #[.int .i64 (zagI x.n)] 3)) ⟨W.heap.size, 0, none⟩ 1 1 [.int .i64 (zagI x.n)] rfl rfl (cell_one_new _ _ _) (by simp [Value.oneCell']) (by omega) (by omega) (by simp; omega) ?_
      intro v' w1 hown' hgrow
      have hgrow2 : (W.alloc (.cells #[.int .i64 (zagI x.n)] 3)).grownBy w1 v.ownBlock := ⟨hgrow.os, hgrow.tape, hgrow.output, hgrow.size, hgrow.block⟩
      obtain ⟨g', cap', rfl⟩ := ownsRow_succ hown'
      obtain ⟨hv1, hv2, hr2, hk2, hb2⟩ := hv.appended (by decide) (own_mono hrow (base' := w.heap.size) (by omega)) (by omega) (Nat.le_refl _) (own_mono hown' (by omega)) hgrow2
      have hg3 := own_ne hown' (k := w.heap.size) (by omega)
      have hg4 := own_ne hown' (k := w.heap.size + 1) (by omega)
      have hu1 := (hu.alloc (.cells #[.int .i64 (zagI x.n)] 3)).kept hgrow2 (own_ne hrow (by omega))
      have hu2 := hu1.other (B' := w.heap.size) (by omega) (.slice (some ⟨g', 0, none⟩) (pre.length + 1) cap')
      have hr3 := hown'.kept (grownBy_setCell' w1 w.heap.size (.slice (some ⟨g', 0, none⟩) (pre.length + 1) cap')) (.inr (Ne.symm hg3))
      have hc1 := hv1.cell
      have hf1 := hv1.frozen
      have hc2 := hu1.cell
      have hf2 := hu1.frozen
      have HR3 := Lib.hid hr3
      have HK2 := Lib.hid hk2
      have HB2 := Lib.hid hb2
      have HV2 := Lib.hid hv2
      have HU2 := Lib.hid hu2
      clear hr3 hk2 hb2 hv2 hu2 hr2 hown' hgrow hgrow2 hg3
      refine hK _ _ ?_
      clear hK K
      refine wpAnyIn_ready (rs := [5]) (by kernel_rfl) (by simp) ?_
      refine AllReadyIn.cons rfl (fun K hK => ?_) AllReadyIn.nil
      go_simp
      refine hK _ _ ?_
      clear hK K
      refine wpAnyIn_done (by kernel_rfl) ?_ _
      gi_wp2
      have hrow2 := HR3.out.kept (grownBy_setCell' (w1.setCell ⟨w.heap.size, 0, none⟩ (.slice (some ⟨g', 0, none⟩) (pre.length + 1) cap')) (w.heap.size + 1) (.int .i64 ((used pre : Int) + x.k))) (.inr (Ne.symm hg4))
      have hbox2 := HU2.out.set (.int .i64 ((used pre : Int) + x.k))
      have hus : ((used (pre ++ [x]) : Nat) : Int) = (used pre : Int) + x.k := by rw [used_snoc]; omega
      refine ⟨(HK2.out.trans (KeepsOthers.setCell _ _ _)).from _, HB2.out.setCell (p := ⟨w.heap.size + 1, 0, none⟩) (by simp) _, ⟨⟨_, HV2.out.other (by omega) _, ?_, trivial⟩, ?_⟩, hB.trans (HB2.out.setCell (p := ⟨w.heap.size + 1, 0, none⟩) (by simp) _)⟩
      · rw [zags_snoc]
        simpa using hrow2
      · rw [hus]
        exact hbox2
    · go_simp
      refine hK _ _ ?_
      clear hK K
      refine wpAnyIn_ready (rs := [0, 2]) (by kernel_rfl) (by simp) ?_
      refine AllReadyIn.cons rfl (fun K hK => ?_) (AllReadyIn.cons rfl (fun K hK => ?_) AllReadyIn.nil)
      · go_simp
        refine hK _ _ ?_
        clear hK K
        refine wpAnyIn_ready (rs := [2]) (by kernel_rfl) (by simp) ?_
        refine AllReadyIn.cons rfl (fun K hK => ?_) AllReadyIn.nil
        go_simp
        refine ⟨trivial, ?_⟩
        refine (CallsIn.inRound l (callsIn_wide.2 (zag_any x.n hxn _))).mono ?_
        rintro e w' ⟨rfl, rfl⟩
        refine hK _ _ ?_
        clear hK K
        refine wpAnyIn_ready (rs := [3]) (by kernel_rfl) (by simp) ?_
        refine AllReadyIn.cons rfl (fun K hK => ?_) AllReadyIn.nil
        go_simp
        refine hK _ _ ?_
        clear hK K
        refine wpAnyIn_ready (rs := [4]) (by kernel_rfl) (by simp) ?_
        refine AllReadyIn.cons rfl (fun K hK => ?_) AllReadyIn.nil
        refine stepIn_append rfl (.tmp 12) (.tmp 15) 32 rfl (w.heap.size + 3) 3 i0 (.int .i64 0) 1 8 Try.underlying32 hi hz0 hz1 hz2 rfl (by decide) v _ _ rfl (hrow.alloc (.cells #[.int .i64 (zagI x.n)] 3)) ⟨W.heap.size, 0, none⟩ 1 1 [.int .i64 (zagI x.n)] rfl rfl (cell_one_new _ _ _) (by simp [Value.oneCell']) (by omega) (by omega) (by simp; omega) ?_
        intro v' w1 hown' hgrow
        have hgrow2 : (W.alloc (.cells #[.int .i64 (zagI x.n)] 3)).grownBy w1 v.ownBlock := ⟨hgrow.os, hgrow.tape, hgrow.output, hgrow.size, hgrow.block⟩
        obtain ⟨g', cap', rfl⟩ := ownsRow_succ hown'
        obtain ⟨hv1, hv2, hr2, hk2, hb2⟩ := hv.appended (by decide) (own_mono hrow (base' := w.heap.size) (by omega)) (by omega) (Nat.le_refl _) (own_mono hown' (by omega)) hgrow2
        have hg3 := own_ne hown' (k := w.heap.size) (by omega)
        have hg4 := own_ne hown' (k := w.heap.size + 1) (by omega)
        have hu1 := (hu.alloc (.cells #[.int .i64 (zagI x.n)] 3)).kept hgrow2 (own_ne hrow (by omega))
        have hu2 := hu1.other (B' := w.heap.size) (by omega) (.slice (some ⟨g', 0, none⟩) (pre.length + 1) cap')
        have hr3 := hown'.kept (grownBy_setCell' w1 w.heap.size (.slice (some ⟨g', 0, none⟩) (pre.length + 1) cap')) (.inr (Ne.symm hg3))
        have hc1 := hv1.cell
        have hf1 := hv1.frozen
        have hc2 := hu1.cell
        have hf2 := hu1.frozen
        have HR3 := Lib.hid hr3
        have HK2 := Lib.hid hk2
        have HB2 := Lib.hid hb2
        have HV2 := Lib.hid hv2
        have HU2 := Lib.hid hu2
        clear hr3 hk2 hb2 hv2 hu2 hr2 hown' hgrow hgrow2 hg3
        refine hK _ _ ?_
        clear hK K
        refine wpAnyIn_ready (rs := [5]) (by kernel_rfl) (by simp) ?_
        refine AllReadyIn.cons rfl (fun K hK => ?_) AllReadyIn.nil
        go_simp
        refine hK _ _ ?_
        clear hK K
        refine wpAnyIn_done (by kernel_rfl) ?_ _
        gi_wp2
        have hrow2 := HR3.out.kept (grownBy_setCell' (w1.setCell ⟨w.heap.size, 0, none⟩ (.slice (some ⟨g', 0, none⟩) (pre.length + 1) cap')) (w.heap.size + 1) (.int .i64 ((used pre : Int) + x.k))) (.inr (Ne.symm hg4))
        have hbox2 := HU2.out.set (.int .i64 ((used pre : Int) + x.k))
        have hus : ((used (pre ++ [x]) : Nat) : Int) = (used pre : Int) + x.k := by rw [used_snoc]; omega
        refine ⟨(HK2.out.trans (KeepsOthers.setCell _ _ _)).from _, HB2.out.setCell (p := ⟨w.heap.size + 1, 0, none⟩) (by simp) _, ⟨⟨_, HV2.out.other (by omega) _, ?_, trivial⟩, ?_⟩, hB.trans (HB2.out.setCell (p := ⟨w.heap.size + 1, 0, none⟩) (by simp) _)⟩
        · rw [zags_snoc]
          simpa using hrow2
        · rw [hus]
          exact hbox2
      · go_simp
        refine ⟨trivial, ?_⟩
        refine (CallsIn.inRound l (callsIn_wide.2 (zag_any x.n hxn _))).mono ?_
        rintro e w' ⟨rfl, rfl⟩
        refine hK _ _ ?_
        clear hK K
        refine wpAnyIn_ready (rs := [0, 3]) (by kernel_rfl) (by simp) ?_
        refine AllReadyIn.cons rfl (fun K hK => ?_) (AllReadyIn.cons rfl (fun K hK => ?_) AllReadyIn.nil)
        · go_simp
          refine hK _ _ ?_
          clear hK K
          refine wpAnyIn_ready (rs := [3]) (by kernel_rfl) (by simp) ?_
          refine AllReadyIn.cons rfl (fun K hK => ?_) AllReadyIn.nil
          go_simp
          refine hK _ _ ?_
          clear hK K
          refine wpAnyIn_ready (rs := [4]) (by kernel_rfl) (by simp) ?_
          refine AllReadyIn.cons rfl (fun K hK => ?_) AllReadyIn.nil
          refine stepIn_append rfl (.tmp 12) (.tmp 15) 32 rfl (w.heap.size + 3) 3 i0 (.int .i64 0) 1 8 Try.underlying32 hi hz0 hz1 hz2 rfl (by decide) v _ _ rfl (hrow.alloc (.cells #[.int .i64 (zagI x.n)] 3)) ⟨W.heap.size, 0, none⟩ 1 1 [.int .i64 (zagI x.n)] rfl rfl (cell_one_new _ _ _) (by simp [Value.oneCell']) (by omega) (by omega) (by simp; omega) ?_
          intro v' w1 hown' hgrow
          have hgrow2 : (W.alloc (.cells #[.int .i64 (zagI x.n)] 3)).grownBy w1 v.ownBlock := ⟨hgrow.os, hgrow.tape, hgrow.output, hgrow.size, hgrow.block⟩
          obtain ⟨g', cap', rfl⟩ := ownsRow_succ hown'
          obtain ⟨hv1, hv2, hr2, hk2, hb2⟩ := hv.appended (by decide) (own_mono hrow (base' := w.heap.size) (by omega)) (by omega) (Nat.le_refl _) (own_mono hown' (by omega)) hgrow2
          have hg3 := own_ne hown' (k := w.heap.size) (by omega)
          have hg4 := own_ne hown' (k := w.heap.size + 1) (by omega)
          have hu1 := (hu.alloc (.cells #[.int .i64 (zagI x.n)] 3)).kept hgrow2 (own_ne hrow (by omega))
          have hu2 := hu1.other (B' := w.heap.size) (by omega) (.slice (some ⟨g', 0, none⟩) (pre.length + 1) cap')
          have hr3 := hown'.kept (grownBy_setCell' w1 w.heap.size (.slice (some ⟨g', 0, none⟩) (pre.length + 1) cap')) (.inr (Ne.symm hg3))
          have hc1 := hv1.cell
          have hf1 := hv1.frozen
          have hc2 := hu1.cell
          have hf2 := hu1.frozen
          have HR3 := Lib.hid hr3
          have HK2 := Lib.hid hk2
          have HB2 := Lib.hid hb2
          have HV2 := Lib.hid hv2
          have HU2 := Lib.hid hu2
          clear hr3 hk2 hb2 hv2 hu2 hr2 hown' hgrow hgrow2 hg3
          refine hK _ _ ?_
          clear hK K
          refine wpAnyIn_ready (rs := [5]) (by kernel_rfl) (by simp) ?_
          refine AllReadyIn.cons rfl (fun K hK => ?_) AllReadyIn.nil
          go_simp
          refine hK _ _ ?_
          clear hK K
          refine wpAnyIn_done (by kernel_rfl) ?_ _
          gi_wp2
          have hrow2 := HR3.out.kept (grownBy_setCell' (w1.setCell ⟨w.heap.size, 0, none⟩ (.slice (some ⟨g', 0, none⟩) (pre.length + 1) cap')) (w.heap.size + 1) (.int .i64 ((used pre : Int) + x.k))) (.inr (Ne.symm hg4))
          have hbox2 := HU2.out.set (.int .i64 ((used pre : Int) + x.k))
          have hus : ((used (pre ++ [x]) : Nat) : Int) = (used pre : Int) + x.k := by rw [used_snoc]; omega
          refine ⟨(HK2.out.trans (KeepsOthers.setCell _ _ _)).from _, HB2.out.setCell (p := ⟨w.heap.size + 1, 0, none⟩) (by simp) _, ⟨⟨_, HV2.out.other (by omega) _, ?_, trivial⟩, ?_⟩, hB.trans (HB2.out.setCell (p := ⟨w.heap.size + 1, 0, none⟩) (by simp) _)⟩
          · rw [zags_snoc]
            simpa using hrow2
          · rw [hus]
            exact hbox2
        · go_simp
          refine hK _ _ ?_
          clear hK K
          refine wpAnyIn_ready (rs := [0]) (by kernel_rfl) (by simp) ?_
          refine AllReadyIn.cons rfl (fun K hK => ?_) AllReadyIn.nil
          go_simp
          refine hK _ _ ?_
          clear hK K
          refine wpAnyIn_ready (rs := [4]) (by kernel_rfl) (by simp) ?_
          refine AllReadyIn.cons rfl (fun K hK => ?_) AllReadyIn.nil
          refine stepIn_append rfl (.tmp 12) (.tmp 15) 32 rfl (w.heap.size + 3) 3 i0 (.int .i64 0) 1 8 Try.underlying32 hi hz0 hz1 hz2 rfl (by decide) v _ _ rfl (hrow.alloc (.cells #[.int .i64 (zagI x.n)] 3)) ⟨W.heap.size, 0, none⟩ 1 1 [.int .i64 (zagI x.n)] rfl rfl (cell_one_new _ _ _) (by simp [Value.oneCell']) (by omega) (by omega) (by simp; omega) ?_
          intro v' w1 hown' hgrow
          have hgrow2 : (W.alloc (.cells #[.int .i64 (zagI x.n)] 3)).grownBy w1 v.ownBlock := ⟨hgrow.os, hgrow.tape, hgrow.output, hgrow.size, hgrow.block⟩
          obtain ⟨g', cap', rfl⟩ := ownsRow_succ hown'
          obtain ⟨hv1, hv2, hr2, hk2, hb2⟩ := hv.appended (by decide) (own_mono hrow (base' := w.heap.size) (by omega)) (by omega) (Nat.le_refl _) (own_mono hown' (by omega)) hgrow2
          have hg3 := own_ne hown' (k := w.heap.size) (by omega)
          have hg4 := own_ne hown' (k := w.heap.size + 1) (by omega)
          have hu1 := (hu.alloc (.cells #[.int .i64 (zagI x.n)] 3)).kept hgrow2 (own_ne hrow (by omega))
          have hu2 := hu1.other (B' := w.heap.size) (by omega) (.slice (some ⟨g', 0, none⟩) (pre.length + 1) cap')
          have hr3 := hown'.kept (grownBy_setCell' w1 w.heap.size (.slice (some ⟨g', 0, none⟩) (pre.length + 1) cap')) (.inr (Ne.symm hg3))
          have hc1 := hv1.cell
          have hf1 := hv1.frozen
          have hc2 := hu1.cell
          have hf2 := hu1.frozen
          have HR3 := Lib.hid hr3
          have HK2 := Lib.hid hk2
          have HB2 := Lib.hid hb2
          have HV2 := Lib.hid hv2
          have HU2 := Lib.hid hu2
          clear hr3 hk2 hb2 hv2 hu2 hr2 hown' hgrow hgrow2 hg3
          refine hK _ _ ?_
          clear hK K
          refine wpAnyIn_ready (rs := [5]) (by kernel_rfl) (by simp) ?_
          refine AllReadyIn.cons rfl (fun K hK => ?_) AllReadyIn.nil
          go_simp
          refine hK _ _ ?_
          clear hK K
          refine wpAnyIn_done (by kernel_rfl) ?_ _
          gi_wp2
          have hrow2 := HR3.out.kept (grownBy_setCell' (w1.setCell ⟨w.heap.size, 0, none⟩ (.slice (some ⟨g', 0, none⟩) (pre.length + 1) cap')) (w.heap.size + 1) (.int .i64 ((used pre : Int) + x.k))) (.inr (Ne.symm hg4))
          have hbox2 := HU2.out.set (.int .i64 ((used pre : Int) + x.k))
          have hus : ((used (pre ++ [x]) : Nat) : Int) = (used pre : Int) + x.k := by rw [used_snoc]; omega
          refine ⟨(HK2.out.trans (KeepsOthers.setCell _ _ _)).from _, HB2.out.setCell (p := ⟨w.heap.size + 1, 0, none⟩) (by simp) _, ⟨⟨_, HV2.out.other (by omega) _, ?_, trivial⟩, ?_⟩, hB.trans (HB2.out.setCell (p := ⟨w.heap.size + 1, 0, none⟩) (by simp) _)⟩
          · rw [zags_snoc]
            simpa using hrow2
          · rw [hus]
            exact hbox2
  case done =>
    rintro D ys W hD rfl ⟨⟨⟨v, hv, hrow, _⟩, hu⟩, hB⟩ hK
    have hc := hv.cell
    have hc2 := hu.cell
    by_cases hused : used (scan 0 0 zs) = zs.length
    · have ht : ((used (scan 0 0 zs) : Int) != (zs.length : Int)) = false := by simp; omega
      gi_wp2
      refine ⟨by simp, .inl ⟨_, _, rfl, run_takeDeferred hK, ?_⟩⟩
      refine ⟨.tuple #[v, .int .i64 0], ?_, ⟨v, rfl, ?_⟩, (hB0.trans hB).trans (belowK_b (w := w) (Nat.le_refl _) W D _ _ (by omega) hK rfl rfl)⟩
      · simp [results, Try.f19, go_sem]
      · have := own_mono (ownsRow_putObj hrow (.deferred none) hK rfl) (base' := w.heap.size) (by omega)
        simpa [zags] using this
    · have ht : ((used (scan 0 0 zs) : Int) != (zs.length : Int)) = true := by simp; omega
      gi_wp2
      refine ⟨by simp, .inl ⟨_, _, rfl, run_takeDeferred hK, ?_⟩⟩
      refine ⟨.tuple #[.slice none 0 0, .int .i64 2], ?_, rfl, (hB0.trans hB).trans (belowK_b (w := w) (Nat.le_refl _) W D _ _ (by omega) hK rfl rfl)⟩
      simp [results, Try.f19, go_sem]
  case stop =>
    rintro D c pre W _ _ h _
    exact h.elim
end Go.Proofs.Ytkjckljighploaa
