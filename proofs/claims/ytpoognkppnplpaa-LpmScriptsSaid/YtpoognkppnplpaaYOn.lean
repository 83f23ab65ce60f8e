/-
  TABLES: what lies on the way to an address, handed out (the program); what a net's number is; what is found.
-/
import Derived.Test.YtpoognkppnplpaaYDropN
import Derived.RangeFuncNested
import Derived.RangeFuncBound
import Derived.RangeFuncCalls
import Derived.RangeFuncLeaves
import Derived.RangeFuncBox
import Derived.Shelf.Abstract
import Derived.Shelf.RegionOpen
import Derived.OwnWalkIn
import Derived.TacticsInMore
import Derived.LoopNIn
import Derived.LoopIn
namespace Go.Proofs.Ytpoognkppnplpaa
set_option linter.unusedSimpArgs false
set_option linter.unusedVariables false
open Go.RowKit Go.Shelf
attribute [local go_sem] Oper.semAt_some
/-- What a round keeps: all below n₀, and one box. -/
def KpA (n₀ Ba : Nat) (W W' : World) : Prop := Below n₀ W W' ∧ ∀ o : Obj, W.heap[Ba]? = some o → o.isCells = true → W'.heap[Ba]? = some o
theorem KpA.refl (n₀ Ba : Nat) (W : World) : KpA n₀ Ba W W := ⟨Below.refl _ _, fun _ h _ => h⟩
theorem KpA.trans {n₀ Ba : Nat} {X Y Z : World} (h : KpA n₀ Ba X Y) (k : KpA n₀ Ba Y Z) : KpA n₀ Ba X Z := ⟨h.1.trans k.1, fun o ho hc => k.2 o (h.2 o ho hc) hc⟩
theorem KpA.alloc {n₀ Ba : Nat} {W : World} (hn : n₀ ≤ W.heap.size) (o : Obj) : KpA n₀ Ba W (W.alloc o) := ⟨(Below.refl _ W).alloc hn _, fun _ h _ => (heap_alloc_old W o (Array.getElem?_eq_some_iff.1 h).1).trans h⟩
theorem KpA.set {n₀ Ba k i : Nat} {W : World} (hk : n₀ ≤ k) (hne : Ba ≠ k) (v : Value) : KpA n₀ Ba W (W.setCell ⟨k, i, none⟩ v) := ⟨(Below.refl _ W).setCell (p := ⟨k, i, none⟩) hk _, fun _ h _ => (heap_setCell_other _ _ _ _ hne).trans h⟩
theorem KpA.put {n₀ Ba : Nat} {w : World} (hn : n₀ ≤ w.heap.size) (W : World) (l : Nat) (o o' : Obj) (hl : w.heap.size ≤ l) (h : W.heap[l]? = some o) (hc : o.isCells = false) (hw : o.isWalk = false) : KpA n₀ Ba W (W.putObj l o') :=
  ⟨belowK_b hn W l o o' hl h hc hw, fun x hx hxc => (World.putObj_heap_other (fun e => by rw [e, h] at hx; cases hx; rw [hc] at hxc; cases hxc)).trans hx⟩
theorem KpA.boxed {n₀ Ba : Nat} {W W' : World} {t : TypeId} {v : Value} (h : KpA n₀ Ba W W') (hb : Boxed W Ba t v) : Boxed W' Ba t v := h.2 _ hb rfl
/-- An entry as it is handed out. -/
def encE (x : Ent) : Array Value := #[.agg #[.int .u32 x.1.1, .int .i64 x.1.2, .int .i64 x.2]]
theorem Tree.next {W : World} {base tb : Nat} {f : Nat → Nat → Option Nat} {g : Nat → Nat → Option (Nat × Int)} (h : Tree W base tb f g) {a d b : Nat} (hf : f (cutN a d) d = some b) : f (kid (cutN a d) d (bitN a d)) (d + 1) = f (cutN a (d + 1)) (d + 1) := by
  by_cases hd : d < 32
  · rw [cut_kid a hd]
  · rw [h.leaf (show 32 < d + 1 by omega), h.leaf (show 32 < d + 1 by omega)]
theorem wayL_len {L : List Ent} (hL : Good L) (a : Nat) {d : Nat} (hd : d ≤ 33) : (wayL L a d).length ≤ d := by
  induction d with
  | zero => rw [wayL_zero hL]; simp
  | succ d ih =>
    have := ih (by omega)
    have e : (entL L (cutN a d, (d : Int))).length ≤ 1 := by unfold entL; split <;> simp
    rw [wayL_succ hL a (by omega), List.length_append]
    omega
theorem wayL_mono {L : List Ent} (hL : Good L) (a : Nat) {d : Nat} (hd : d ≤ 33) : ∀ k, d + k ≤ 33 → wayL L a d <+: wayL L a (d + k) := by
  intro k
  induction k with
  | zero => intro _; exact List.prefix_refl _
  | succ k ih =>
    intro h
    have := wayL_succ hL a (show d + k ≤ 32 by omega)
    rw [← Nat.add_assoc, this]
    exact (ih (by omega)).trans (List.prefix_append _ _)
theorem wayL_33 {L : List Ent} (hL : Good L) (a : Nat) : wayL L a 33 = onL a L := wayL_all fun x hx _ => by
  obtain ⟨e, he, h1, _⟩ := right_cases (hL.right x hx).1
  rw [he]
  simp only
  omega
theorem way_prefix {L : List Ent} (hL : Good L) (a : Nat) {d : Nat} (hd : d ≤ 32) {l : List Ent} (h : wayL L a (d + 1) = l) : l <+: onL a L := by
  subst h
  have := wayL_mono hL a (show d + 1 ≤ 33 by omega) (32 - d) (by omega)
  rw [show d + 1 + (32 - d) = 33 by omega, wayL_33 hL] at this
  exact this
set_option maxRecDepth 100000 in
set_option maxHeartbeats 2000000 in
theorem on1_in (l Bt Ba n₀ : Nat) (tb base a : Nat) (ha : a < 4294967296) (f : Nat → Nat → Option Nat) (g : Nat → Nat → Option (Nat × Int)) (L : List Ent) (hL : Good L) (hm : Match L g) (J Jx : List Ent → World → Prop)
    (hY : ∀ pre x W, J pre W → pre.length < 34 → YieldAt Fence.wide 1 Try.prog l (encE x) W fun e W' =>
      (e = .returned (.bool true) ∧ J (pre ++ [x]) W' ∧ KpA n₀ Ba W W') ∨ (e = .returned (.bool false) ∧ Jx (pre ++ [x]) W'))
    (hJb : ∀ pre X Y, J pre X → Below X.heap.size X Y → J pre Y)
    (W0 W : World) (hn : W0.heap.size = n₀) (hW : Below n₀ W0 W) (hBt : W.cell? ⟨Bt, 0, none⟩ = some (pt (some tb))) (hBa : Boxed W Ba 23 (.int .u32 a)) (ht : Tree W0 base tb f g) (h0 : J [] W) :
    CallsIn Fence.wide 2 Try.prog 40 #[.func (.yield l) #[] #[], .pointer (some ⟨Bt, 0, none⟩), .pointer (some ⟨Ba, 0, none⟩)] W fun e W' => (∃ v, e = .returned v) ∧
      ((∃ ys, ys = onL a L ∧ J ys W') ∨ (∃ pre, pre <+: onL a L ∧ Jx pre W')) := by
  unfold pt at hBt
  simp only [Option.map_some] at hBt
  refine callsIn_of_wp Try.func40 rfl trivial ?_ rfl
  simp only [Try.ntmps40, List.size_toArray, List.length_cons, List.length_nil, Nat.reduceAdd, Nat.reduceSub, Array.replicate_succ, Array.replicate_zero, List.push_toArray, List.append_toArray, List.nil_append, List.cons_append]
  have HW := Lib.hid hn
  have HT := Lib.hid ht
  have HWW := Lib.hid hW
  have HBA := Lib.hid hBa
  clear hn ht hW hBa
  have h0' := wayL_zero hL a
  gi_wp2
  gi_loopw [4, 5] (fun av dv wr => ∃ (d : Nat) (pre : List Ent), dv = .int .i64 d ∧ av = pt (f (cutN a d) d) ∧ Hid (pre = wayL L a d) ∧ J pre wr ∧ Hid (Below n₀ W0 wr) ∧ Hid (Boxed wr Ba 23 (.int .u32 a))) (fun _ dv _ => 33 - (intOf dv).toNat)
  case atStart => exact ⟨0, [], rfl, by rw [cut_zero ha, HT.out.root]; rfl, h0'.symm, h0, HWW.out, HBA.out⟩
  case round =>
    clear h0 h0' HBA hBt
    obtain ⟨d, pre, rfl, rfl, HP, hJp, HK, HBA⟩ := hrel
    have hpl : pre.length < 34 ∨ 33 < d := by
      by_cases h33 : d ≤ 33
      · left; have := wayL_len hL a h33; rw [HP.out]; omega
      · right; omega
    have ht2 : Tree wr base tb f g := HT.out.below (by rw [HW.out]; exact HK.out)
    cases hf : f (cutN a d) d with
    | none =>
      have hall := ht2.way_all hL hm hf
      have HA := Lib.hid hall
      unfold pt
      simp only [Option.map_none]
      clear hf hall ht2 hpl
      gi_wp2
      go_end0
      exact ⟨⟨_, rfl⟩, .inl ⟨pre, HP.out.trans HA.out, hJp⟩⟩
    | some b =>
      have hd := (ht2.ok _ _ _ hf).1
      obtain ⟨_, _, c2, _, _, _, hbl⟩ := (ht2.node _ _ _ hf).cells
      have HF := Lib.hid hf
      have hsu := wayL_succ hL a hd
      have HSU := Lib.hid hsu
      have hew := ent_way hm (cutN a d) d
      unfold pt
      simp only [Option.map_some]
      clear hf hsu
      have hd0 : (0 : Int) ≤ d := by omega
      cases hg : g (cutN a d) d with
      | none =>
        rw [hg] at hew c2
        unfold pt at c2
        simp only [Option.map_none] at c2
        have HEW := Lib.hid hew
        clear hg hew
        clear hpl
        have HNX := Lib.hid (ht2.next HF.out)
        obtain ⟨q0, q1, q2⟩ := ht2.cellsAt HF.out (bitN_lt a d)
        have hbit := bit_any a d ha hd
        have hi := bitN_lt a d
        have ca : wr.cell? ⟨Ba, 0, none⟩ = some (.int .u32 a) := HBA.out.cell
        have HJ := Lib.hid (hJb pre wr wr.drew hJp (Below.refl _ _).drew)
        have HK2 := Lib.hid (HK.out.drew)
        generalize bitN a d = I at *
        clear ht2
        gi_wp2
        refine ⟨fun _ h => (by cases h), ?_⟩
        gi_wp2
        gi_region_with (refine ⟨trivial, ?_⟩; gi_at_call 41; refine (callsIn_wide.2 (hbit _)).mono ?_; rintro e w4 ⟨rfl, rfl⟩)
        all_goals
          go_simp
          gi_wp2
          go_roundw
          case rel => exact ⟨d + 1, pre, by go_num, by rw [HNX.out]; rfl, by unfold Hid; rw [HSU.out, HEW.out, List.append_nil]; exact HP.out, HJ.out, HK2.out, HBA.out⟩
          case measure => simp [intOf]; omega
      | some ev =>
        obtain ⟨eb, v⟩ := ev
        rw [hg] at hew c2
        unfold pt at c2
        simp only [Option.map_some] at c2 hew
        obtain ⟨e0, e1, e2, hel⟩ := (ht2.ent _ _ _ _ hg).2.2.cells
        have HEW := Lib.hid hew
        clear hg hew
        obtain ⟨fn, tmps, assign, body, hy, hR⟩ := hY pre ((cutN a d, (d : Int)), v) wr hJp (by omega)
        clear hpl
        unfold encE at hy
        dsimp only at hy
        gi_wp2
        refine hR.mono ?_
        rintro e W3 (⟨rfl, hJ3, hk3⟩ | ⟨rfl, hJx3⟩)
        · have hka := hk3.boxed HBA.out
          replace hk3 := hk3.1
          clear HBA
          have HBA := Lib.hid hka
          clear hka
          have ht3 : Tree W3 base tb f g := HT.out.below (by rw [HW.out]; exact HK.out.trans hk3)
          have HNX := Lib.hid (ht3.next HF.out)
          obtain ⟨q0, q1, q2⟩ := ht3.cellsAt HF.out (bitN_lt a d)
          have hbit := bit_any a d ha hd
          have hi := bitN_lt a d
          have ca : W3.cell? ⟨Ba, 0, none⟩ = some (.int .u32 a) := HBA.out.cell
          have HJ := Lib.hid (hJb _ W3 W3.drew hJ3 (Below.refl _ _).drew)
          have HK2 := Lib.hid ((HK.out.trans hk3).drew)
          generalize bitN a d = I at *
          clear ht3 ht2 hk3 hJ3 hJp
          gi_wp2
          gi_region_with (refine ⟨trivial, ?_⟩; gi_at_call 41; refine (callsIn_wide.2 (hbit _)).mono ?_; rintro e w4 ⟨rfl, rfl⟩)
          all_goals
            go_simp
            gi_wp2
            go_roundw
            case rel => exact ⟨d + 1, _, by go_num, by rw [HNX.out]; rfl, by unfold Hid; rw [HSU.out, HEW.out, ← HP.out], HJ.out, HK2.out, HBA.out⟩
            case measure => simp [intOf]; omega
        · gi_wp2
          refine bodyPost_ret (results_none rfl _ _ _) rfl ?_
          exact ⟨⟨_, rfl⟩, .inr ⟨_, way_prefix hL a hd (by rw [HSU.out, HEW.out, ← HP.out]), hJx3⟩⟩
/-- The iterator's maker. -/
theorem on_any (tb : Nat) (a : Nat) (w : World) : Calls Try.prog 28 #[pt (some tb), .int .u32 a] w fun e w' => e = .returned (.func (.func 40) #[] #[.pointer (some ⟨w.heap.size, 0, none⟩), .pointer (some ⟨w.heap.size + 1, 0, none⟩)]) ∧ (w.alloc (.cells #[pt (some tb)] 27)).alloc (.cells #[.int .u32 a] 23) = w' := by
  unfold pt
  go_enter Try.func28, Try.ntmps28
  go_wp2
  go_ret
  exact ⟨rfl, rfl⟩
theorem cell_box (W : World) (v : Value) (t : TypeId) : (W.alloc (.cells #[v] t)).cell? ⟨W.heap.size, 0, none⟩ = some v := World.cell?_alloc_new (w := W) _ _ 0
theorem on_stops (ws w : World) (hws : Below ws.heap.size ws w) (tb base a : Nat) (ha : a < 4294967296) (f : Nat → Nat → Option Nat) (g : Nat → Nat → Option (Nat × Int)) (L : List Ent) (hL : Good L) (hm : Match L g) (ht : Tree ws base tb f g) (W0 : World) (hW0 : (w.alloc (.cells #[pt (some tb)] 27)).alloc (.cells #[.int .u32 a] 23) = W0) :
    SeqStopsK Fence.wide 2 Try.prog 40 #[.pointer (some ⟨w.heap.size, 0, none⟩), .pointer (some ⟨w.heap.size + 1, 0, none⟩)] encE (KpA ws.heap.size (w.heap.size + 1)) (fun ys => ys = onL a L) (fun pre => pre <+: onL a L) 34 W0 := fun l J Jx W hW hJ hJx hY h0 => by
  have hs : W0.heap.size = w.heap.size + 2 := by rw [← hW0]; simp
  have c1 : Boxed W0 (w.heap.size + 1) 23 (.int .u32 a) := by
    rw [← hW0]
    have := Boxed.new (w.alloc (.cells #[pt (some tb)] 27)) 23 (.int .u32 a)
    rwa [World.size_alloc] at this
  have c0 : W0.cell? ⟨w.heap.size, 0, none⟩ = some (pt (some tb)) := by
    rw [← hW0]
    exact (World.cell?_alloc_past (w := w.alloc (.cells #[pt (some tb)] 27)) _ w.heap.size 0 (by simp)).trans (cell_box w _ _)
  have hb : Below ws.heap.size ws W := by
    have := hws.size
    rw [← hW0] at hW
    exact (hws.trans (((Below.refl _ w).alloc this (.cells #[pt (some tb)] 27)).alloc (by simp; omega) (.cells #[.int .u32 a] 23))).trans (hW.mono (by simp; omega))
  exact on1_in l w.heap.size (w.heap.size + 1) ws.heap.size tb base a ha f g L hL hm J Jx hY
    (fun pre X Y hX hXY => hJ pre X Y none hX ⟨hXY.os, hXY.tape, hXY.output, hXY.size, fun r hr _ => hXY.block r hr⟩ (fun r e => by cases e))
    ws W rfl hb ((hW.cell (p := ⟨w.heap.size, 0, none⟩) (by show w.heap.size < _; omega)).trans c0) ((hW.block _ c1.lt).trans c1) ht h0
end Go.Proofs.Ytpoognkppnplpaa
