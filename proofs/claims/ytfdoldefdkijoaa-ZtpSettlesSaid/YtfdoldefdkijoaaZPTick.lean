/-
  THE PROGRAM'S NODE: Tick.
-/
import Derived.Test.YtfdoldefdkijoaaZPQuiet
import Derived.Test.YtfdoldefdkijoaaZLaw
namespace Go.Proofs.Ytfdoldefdkijoaa
set_option linter.unusedSimpArgs false
set_option linter.unusedVariables false
open Go.ChangeMaps Go.MapKept Go.Maps Go.RowKit
def curL (L : List OffT) (now : Int) (left : Lit → Bool) : List OffT := L.filter fun o => left (.int .i64 o.link) || decide (now < o.till)
theorem cur_start {L : List OffT} {now : Int} {left : Lit → Bool} (h : ∀ x ∈ L, left (.int .i64 x.link) = true) : curL L now left = L := by
  unfold curL
  rw [List.filter_eq_self]
  intro x hx
  simp [h x hx]
theorem cur_end {L : List OffT} {now : Int} {left : Lit → Bool} (h : ∀ k, left k = false) : curL L now left = heldL L now := by
  unfold curL heldL
  apply List.filter_congr
  intro x _
  simp [h]
theorem cur_mem {L : List OffT} {now : Int} {left : Lit → Bool} {x : OffT} (h : x ∈ curL L now left) : x ∈ L := (List.mem_filter.1 h).1
theorem cur_stay {L : List OffT} {now : Int} {left : Lit → Bool} (hn : (L.map OffT.link).Nodup) {x : OffT} (hx : x ∈ L) (ht : now < x.till) : curL L now (fun z => left z && !z.sameKey (.int .i64 x.link)) = curL L now left := by
  unfold curL
  apply List.filter_congr
  intro y hy
  show ((left (.int .i64 y.link) && !(Lit.int .i64 y.link).sameKey (.int .i64 x.link)) || decide (now < y.till)) = _
  rw [same_key]
  by_cases e : y.link = x.link
  · obtain rfl := nd_eq hn hy hx e
    simp [ht]
  · simp [e]
theorem cur_drop {L : List OffT} {now : Int} {left : Lit → Bool} (hn : (L.map OffT.link).Nodup) {x : OffT} (hx : x ∈ L) (ht : x.till ≤ now) : restZ (curL L now left) x.link = curL L now (fun z => left z && !z.sameKey (.int .i64 x.link)) := by
  unfold restZ curL
  rw [List.filter_filter]
  apply List.filter_congr
  intro y hy
  show _ = ((left (.int .i64 y.link) && !(Lit.int .i64 y.link).sameKey (.int .i64 x.link)) || decide (now < y.till))
  rw [same_key]
  by_cases e : y.link = x.link
  · obtain rfl := nd_eq hn hy hx e
    simp [show ¬ now < y.till by omega]
  · simp [e]
section
variable {w W : World} {base pb mb : Nat} {z : ZtT}
theorem grown_keep {X Y : World} (hg : X.grownBy Y (some mb)) (hm : ∃ es c, X.heap[mb]? = some (.map es c)) : KeepP X Y := by
  obtain ⟨es, c, hm⟩ := hm
  refine ⟨hg.size, fun i cs T fr _ hc => (hg.block i (Array.getElem?_eq_some_iff.1 hc).1 (fun e => ?_)).trans hc⟩
  injection e with e
  rw [e, hm] at hc
  cases hc
theorem PZ.grown {Y : World} {L : List OffT} (h : PZ w base pb mb z) (hg : w.grownBy Y (some mb)) (hm : MapZ Y mb L) : PEnd w base pb { z with L := L } Y :=
  ⟨⟨mb, (hg.block pb h.lt (fun e => h.ne (by injection e))).trans h.box, hm, h.lp, h.lm, Nat.le_trans h.base hg.size, h.held⟩,
    (Below.refl _ w).grown hg h.base (fun j e => by injection e with e; have := h.lm; omega), grown_keep hg h.map.isMap⟩
theorem PEnd.below {Y Y' : World} (h : PEnd w base pb z Y) (k : Below Y.heap.size Y Y') : PEnd w base pb z Y' := by
  obtain ⟨mb, q⟩ := h.1
  exact ⟨⟨mb, q.below k⟩, h.2.1.trans (k.mono q.base), h.2.2.trans (KeepP.below k)⟩
theorem PEnd.put2 {Y : World} {u v : Value} (h : PEnd w base pb z Y) (z' : ZtT) (hL : z'.L = z.L) (hf : fixP z' = fixP z) (h2 : u = .int .i64 z'.taken) (h3 : v = .int .i64 (tillP z')) (hh : z'.down = true → z'.taken = 0) : PEnd w base pb z' ((Y.setCell ⟨pb, 2, none⟩ u).setCell ⟨pb, 3, none⟩ v) := by
  obtain ⟨mb, q⟩ := h.1
  have b1 := heap_setCell_same Y pb 2 _ _ u q.box
  have b2 := heap_setCell_same (Y.setCell ⟨pb, 2, none⟩ u) pb 3 _ _ v b1
  have k1 := KeepP.setCell (i := 2) q.box u
  have k2 := KeepP.setCell (i := 3) b1 v
  refine ⟨⟨mb, b2.trans (by rw [h2, h3, hf.symm]; rfl), ?_, q.lp, q.lm, by have := q.base; simp; omega, hh⟩, ((h.2.1.setCell (p := ⟨pb, 2, none⟩) q.lp u).setCell (p := ⟨pb, 3, none⟩) q.lp v), h.2.2.trans (k1.trans k2)⟩
  rw [hL]
  exact q.map.same ((heap_setCell_other _ _ _ _ q.ne.symm).trans (heap_setCell_other _ _ _ _ q.ne.symm))
theorem takeP_end {best now : Int} (hh : z.down = true → z.taken = 0) (h1 : z.taken ≤ best) (h2 : tillP z ≤ now) : takeZ z.taken z.down z.till best now = (best, false, z.till) := by
  unfold tillP at h2
  cases hd : z.down with
  | false =>
    by_cases q : z.taken < best
    · exact takeZ_up q
    · have : z.taken = best := by omega
      rw [← this]
      exact takeZ_same
  | true =>
    rw [hd, if_pos rfl] at h2
    exact takeZ_end h1 h2
theorem takeP_hold {best now : Int} (hn : 0 ≤ now) (h1 : z.taken ≤ best) (h2 : now < tillP z) : takeZ z.taken z.down z.till best now = (z.taken, z.down, z.till) := by
  unfold tillP at h2
  cases hd : z.down with
  | false => rw [hd, if_neg (by decide)] at h2; omega
  | true =>
    rw [hd, if_pos rfl] at h2
    exact takeZ_down h1 h2
set_option maxHeartbeats 3200000 in
set_option maxRecDepth 100000 in
theorem ptick_bad (h : ProgZ w base pb z) (now : Int) (hn : ¬ momB now) : Calls Try.prog 14 #[.pointer (some ⟨pb, 0, none⟩), .int .i64 now] w fun e w' => e = .returned (.int .i64 (tickZ z now).1) ∧ PEnd w base pb (tickZ z now).2 w' := by
  have he : tickZ z now = (1, z) := by unfold tickZ; rw [if_pos hn]
  rw [he]
  have HZ : Hid (PEnd w base pb z w) := by obtain ⟨mb, h⟩ := h; exact h.pend (Below.refl _ _)
  have h3 := ptimeOk_any now w
  rw [decide_eq_false hn] at h3
  clear hn h he
  go_enter Try.func14, Try.ntmps14
  go_wp2_with (go_at_call 24; refine h3.mono ?_; rintro e w1 ⟨rfl, hww⟩; have hww := hww.symm; subst hww)
  go_ret
  exact ⟨rfl, HZ.out⟩
set_option maxHeartbeats 6400000 in
set_option maxRecDepth 100000 in
theorem ptick_ok (h : ProgZ w base pb z) (hi : InvZ z) (now : Int) (hn : momB now) : Calls Try.prog 14 #[.pointer (some ⟨pb, 0, none⟩), .int .i64 now] w fun e w' => e = .returned (.int .i64 (tickZ z now).1) ∧ PEnd w base pb (tickZ z now).2 w' := by
  have h3 := ptimeOk_any now w
  rw [decide_eq_true hn] at h3
  obtain ⟨mb, h⟩ := h
  obtain ⟨c0, c1, c2, c3⟩ := h.cells
  have hmap := h.map
  have hml := hmap.lt
  have hpl := h.lt
  have hne := h.ne
  have HM := Lib.hid hmap
  have HN := Lib.hid hi.nd
  have HP := Lib.hid h
  have HT := Lib.hid hn
  have hlink : Hid (∀ x ∈ z.L, InI x.link) := fun x hx => inI_link ⟨(hi.lv x hx).2.2.1, (hi.lv x hx).2.2.2.1⟩
  have e1 : -9223372036854775808 ≤ now + 3 ∧ now + 3 ≤ 9223372036854775807 := by unfold momB at hn; omega
  have C1 := Lib.hid c1
  clear h hmap hi hn c0 c2 c3
  go_enter Try.func14, Try.ntmps14
  go_wp2_with (first
    | (go_at_call 24; refine h3.mono ?_; rintro e w1 ⟨rfl, hww⟩; have hww := hww.symm; subst hww)
    | (at_range; refine wpList_range_Z _ rfl _ rfl mb z.L rfl HM.out ?_; intro w0 lf cn hrg0 hst hg0 hs0; have HR : Hid (RangeZ w0 mb w.heap.size z.L.length (curL z.L now lf) lf cn ∧ w.grownBy w0 (some mb)) := ⟨by rw [cur_start hst]; exact hrg0, hg0.but _⟩; clear hrg0 hst hg0 hs0)
    | go_in)
  go_frame
  go_loopw [5] (fun _ wr => ∃ (left : Lit → Bool) (cnt : Nat), Hid (RangeZ wr mb w.heap.size z.L.length (curL z.L now left) left cnt ∧ w.grownBy wr (some mb))) (fun _ wr => wr.rangeLeft mb w.heap.size)
  case atStart => exact ⟨lf, cn, HR⟩
  case round =>
    obtain ⟨left, cnt, HQ⟩ := hrel
    go_wp2_with (first
      | (at_next; refine wpList_next_Z _ rfl _ rfl mb w.heap.size z.L.length (curL z.L now left) left cnt rfl HQ.out.1 ?_ ?_)
      | go_in)
    · intro hl0
      have hend : PEnd w base pb { z with L := heldL z.L now } wr := by rw [← cur_end hl0]; exact HP.out.grown HQ.out.2 HQ.out.1.map
      have hbst := pbest_any hend.1 (nd_filter _ HN.out)
      have he : tickZ z now = (0, { z with L := heldL z.L now, taken := (takeZ z.taken z.down z.till (bestL (heldL z.L now)) now).1, down := (takeZ z.taken z.down z.till (bestL (heldL z.L now)) now).2.1, till := (takeZ z.taken z.down z.till (bestL (heldL z.L now)) now).2.2 }) := by unfold tickZ; rw [if_neg (by simpa using HT.out)]
      have hb2 : bestL ({ z with L := heldL z.L now } : ZtT).L = bestL (heldL z.L now) := rfl
      rw [hb2] at hbst
      obtain ⟨best, hbe⟩ : ∃ n, bestL (heldL z.L now) = n := ⟨_, rfl⟩
      rw [hbe] at hbst he
      have hheld := HP.out.held
      have HED := Lib.hid hend
      clear hbe hb2 hl0 HQ hend
      obtain ⟨tp, htp⟩ : ∃ t, tillP z = t := ⟨_, rfl⟩
      have HTP := Lib.hid htp
      by_cases q1 : best < z.taken
      · rw [takeZ_fall q1] at he
        have HE := Lib.hid he
        clear he hheld
        go_wp2_with (go_at_call 18; refine hbst.mono ?_; rintro e w2 ⟨rfl, hbb⟩; have hw2 := HED.out.below hbb; obtain ⟨mb2, hq2⟩ := hw2.1; obtain ⟨d0, d1, d2, d3⟩ := hq2.cells; have dz := hq2.frozen; have HF : Hid (PEnd w base pb { z with L := heldL z.L now } w2) := hw2; clear hw2 hq2 hbb d0 d1)
        go_ret
        rw [HE.out]
        exact ⟨rfl, HF.out.put2 _ rfl rfl rfl rfl (fun _ => rfl)⟩
      · by_cases q2 : tp ≤ now
        · rw [takeP_end hheld (by omega) (by rw [htp]; exact q2)] at he
          have HE := Lib.hid he
          clear he hheld htp
          go_wp2_with (go_at_call 18; refine hbst.mono ?_; rintro e w2 ⟨rfl, hbb⟩; have hw2 := HED.out.below hbb; obtain ⟨mb2, hq2⟩ := hw2.1; obtain ⟨d0, d1, d2, d3⟩ := hq2.cells; have dz := hq2.frozen; have HF : Hid (PEnd w base pb { z with L := heldL z.L now } w2) := hw2; clear hw2 hq2 hbb d0 d1; replace d3 : w2.cell? ⟨pb, 3, none⟩ = some (.int .i64 tp) := (by rw [d3]; exact congrArg (fun n => some (Value.int .i64 n)) HTP.out))
          go_ret
          rw [HE.out]
          exact ⟨rfl, HF.out.put2 _ rfl rfl rfl rfl (fun h => by cases h)⟩
        · have hn0 : 0 ≤ now := HT.out.1
          rw [takeP_hold hn0 (by omega) (by omega)] at he
          have HE := Lib.hid he
          clear he hheld hn0 htp
          go_wp2_with (go_at_call 18; refine hbst.mono ?_; rintro e w2 ⟨rfl, hbb⟩; have hw2 := HED.out.below hbb; obtain ⟨mb2, hq2⟩ := hw2.1; obtain ⟨d0, d1, d2, d3⟩ := hq2.cells; have dz := hq2.frozen; have HF : Hid (PEnd w base pb { z with L := heldL z.L now } w2) := hw2; clear hw2 hq2 hbb d0 d1; replace d3 : w2.cell? ⟨pb, 3, none⟩ = some (.int .i64 tp) := (by rw [d3]; exact congrArg (fun n => some (Value.int .i64 n)) HTP.out))
          go_ret
          rw [HE.out]
          exact ⟨rfl, HF.out⟩
    · intro x w1 cnt1 hxm hxl hrg1 hlt1 hg1 hs1 hen
      have hgw1 := HQ.out.2.andThen hg1 (fun j hj => by cases hj; exact Or.inl (Nat.le_refl _))
      have hx := cur_mem hxm
      have hsz := hgw1.size
      have HA : Hid (∀ A : Obj, RangeZ (w1.alloc A) mb w.heap.size z.L.length (curL z.L now left) (fun z => left z && !z.sameKey (.int .i64 x.link)) cnt1 ∧ w.grownBy (w1.alloc A) (some mb)) := fun A => ⟨hrg1.kept (World.grownBy_alloc _ _ none) (by simp) (by simp), hgw1.andThen (World.grownBy_alloc _ A none) (fun j hj => by cases hj)⟩
      have HX : Hid (x ∈ z.L) := hx
      have HKI : Hid (InI x.link) := hlink.out x hx
      have HLE : Hid (cnt1 < cnt ∧ wr.rangeLeft mb w.heap.size = cnt) := ⟨hlt1, HQ.out.1.left_eq⟩
      have y1 : ∀ A : Obj, (w1.alloc A).cell? ⟨pb, 1, none⟩ = some (.map (some mb)) := fun A => by
        rw [World.cell?_of_block (w := w) (a := ⟨pb, 1, none⟩) ((HA.out A).2.block pb hpl (fun e => hne (by injection e)))]; exact C1.out
      have y2 := y1 (.cells #[.int .i64 x.level, .int .i64 x.till] 51)
      have HR2 := Lib.hid (HA.out (.cells #[.int .i64 x.level, .int .i64 x.till] 51))
      clear hxm hxl hrg1 hlt1 hg1 hgw1 hx y1 HA
      by_cases q : x.till ≤ now
      · have HC : Hid (restZ (curL z.L now left) x.link = curL z.L now (fun z => left z && !z.sameKey (.int .i64 x.link))) := cur_drop HN.out HX.out q
        go_wp2_with (first
          | (at_delete; refine wpList_delete_Z _ rfl _ _ rfl mb w.heap.size z.L.length (curL z.L now left) _ cnt1 rfl HR2.out.1 x.link HKI.out rfl ?_; intro w2 cnt2 hrg2 hle hturn; go_frame)
          | go_in)
        rw [strike_twice, HC.out] at hrg2
        have HG := Lib.hid (And.intro hrg2 (And.intro (HR2.out.2.andThen hturn.grown (fun j hj => by cases hj; exact Or.inr rfl)) hle))
        clear hrg2 hle hturn
        go_roundw
        case rel => exact ⟨_, cnt2, HG.out.1, HG.out.2.1⟩
        case measure => rw [HG.out.1.left_eq, HLE.out.2]; have := HLE.out.1; have := HG.out.2.2; omega
      · have HC : Hid (curL z.L now (fun z => left z && !z.sameKey (.int .i64 x.link)) = curL z.L now left) := cur_stay HN.out HX.out (by omega)
        go_wp2
        go_roundw
        case rel => exact ⟨_, cnt1, by rw [HC.out]; exact HR2.out.1, HR2.out.2⟩
        case measure => rw [HR2.out.1.left_eq, HLE.out.2]; exact HLE.out.1
theorem ptick_any (h : ProgZ w base pb z) (hi : InvZ z) (now : Int) : Calls Try.prog 14 #[.pointer (some ⟨pb, 0, none⟩), .int .i64 now] w fun e w' => e = .returned (.int .i64 (tickZ z now).1) ∧ PEnd w base pb (tickZ z now).2 w' := by
  by_cases hn : momB now
  · exact ptick_ok h hi now hn
  · exact ptick_bad h now hn
end
end Go.Proofs.Ytfdoldefdkijoaa
