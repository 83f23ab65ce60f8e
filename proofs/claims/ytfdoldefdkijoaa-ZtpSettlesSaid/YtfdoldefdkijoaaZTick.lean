/-
  THE DOCUMENT'S NODE: Tick.
-/
import Derived.Test.YtfdoldefdkijoaaZDo
namespace Go.Proofs.Ytfdoldefdkijoaa
set_option linter.unusedSimpArgs false
set_option linter.unusedVariables false
open Go.RowKit
section
variable {w : World} {base rb : Nat} {z : ZtT}
/-- The other cells of a node are turned. -/
theorem RZ.put {W : World} {v : Value} {j : Nat} {u : Value} {z' : ZtT} (h : RZ W base rb z v) (hL : z'.L = z.L) (hb : (#[.int .i64 z.fixed, .bool z.leaf, .bool z.top, v, .int .i64 z.taken, .bool z.down, .int .i64 z.till] : Array Value).setIfInBounds j u = #[.int .i64 z'.fixed, .bool z'.leaf, .bool z'.top, v, .int .i64 z'.taken, .bool z'.down, .int .i64 z'.till]) (hne : v.ownBlock ≠ some rb) : RZ (W.setCell ⟨rb, j, Option.none⟩ u) base rb z' v := by
  refine ⟨(heap_setCell_same _ rb j _ _ _ h.box).trans (by rw [hb]), ?_, h.le, by have := h.base; simp; omega⟩
  rw [hL]
  exact h.own.same fun g hg => heap_setCell_other _ _ _ _ fun e => hne (by rw [hg]; exact congrArg some e)
/-- A node whose row lies elsewhere than its box. -/
def RefN (W : World) (base rb : Nat) (z : ZtT) (w : World) : Prop := ∃ v, RZ W base rb z v ∧ v.ownBlock ≠ some rb ∧ Below base w W ∧ KeepO [49, 54] w W
theorem RefN.zend {W : World} (h : RefN W base rb z w) : ZEnd w base rb z W := by
  obtain ⟨v, h1, h2, h3, h4⟩ := h
  exact ⟨⟨v, h1⟩, h3, h4⟩
theorem RefN.put {W : World} {j : Nat} {u : Value} {z' : ZtT} (h : RefN W base rb z w) (hL : z'.L = z.L) (hb : ∀ v, (#[.int .i64 z.fixed, .bool z.leaf, .bool z.top, v, .int .i64 z.taken, .bool z.down, .int .i64 z.till] : Array Value).setIfInBounds j u = #[.int .i64 z'.fixed, .bool z'.leaf, .bool z'.top, v, .int .i64 z'.taken, .bool z'.down, .int .i64 z'.till]) : RefN (W.setCell ⟨rb, j, Option.none⟩ u) base rb z' w := by
  obtain ⟨v, h1, h2, h3, h4⟩ := h
  exact ⟨v, h1.put hL (hb v) h2, h2, h3.setCell (p := ⟨rb, j, Option.none⟩) h1.le u, h4.trans (KeepO.setCell h1.box (by decide) u)⟩
theorem RZ.storeN {W : World} {v v' : Value} {l : List OffT} (h : RZ w base rb z v) (hb : Below w.heap.size w W) (ho : OwnO 54 W w.heap.size v' l) : RefN (W.setCell ⟨rb, 3, Option.none⟩ v') base rb { z with L := l } w := by
  have hq := h.below hb
  have hlt := h.lt
  have hne : v'.ownBlock ≠ some rb := fun e => by have := (World.ownsRow.lt ho rb e).1; omega
  refine ⟨v', ⟨heap_setCell_same _ rb 3 _ _ _ hq.box, (ho.mono h.base).same fun g hg => heap_setCell_other _ _ _ _ fun e => hne (by rw [hg]; exact congrArg some e), h.le, by have := hq.base; simp; omega⟩, hne, (hb.mono h.base).setCell (p := ⟨rb, 3, Option.none⟩) h.le v', (KeepO.below hb).trans (KeepO.setCell hq.box (by decide) v')⟩
theorem RefN.ref {W : World} (h : RefN W base rb z w) : RefZ W base rb z := by
  obtain ⟨v, h1, _⟩ := h
  exact ⟨v, h1⟩
theorem RefN.cells {W : World} (h : RefN W base rb z w) : W.cell? ⟨rb, 4, Option.none⟩ = some (.int .i64 z.taken) ∧ W.cell? ⟨rb, 5, Option.none⟩ = some (.bool z.down) ∧ W.cell? ⟨rb, 6, Option.none⟩ = some (.int .i64 z.till) ∧ ∀ j, W.frozen? ⟨rb, j, Option.none⟩ = false := by
  obtain ⟨v, h1, _⟩ := h
  obtain ⟨_, _, _, _, c4, c5, c6⟩ := h1.cells
  exact ⟨c4, c5, c6, h1.frozen⟩
set_option maxHeartbeats 6400000 in
set_option maxRecDepth 100000 in
theorem rtick_any (h : RefZ w base rb z) (hi : InvZ z) (now : Int) : Calls Try.prog 15 #[.pointer (some ⟨rb, 0, Option.none⟩), .int .i64 now] w fun e w' => e = .returned (.int .i64 (tickZ z now).1) ∧ ZEnd w base rb (tickZ z now).2 w' := by
  have hm := rmoment_any now
  by_cases hn : momB now
  · rw [decide_eq_true hn] at hm
    have ht : tickZ z now = (0, { z with L := heldL z.L now, taken := (takeZ z.taken z.down z.till (bestL (heldL z.L now)) now).1, down := (takeZ z.taken z.down z.till (bestL (heldL z.L now)) now).2.1, till := (takeZ z.taken z.down z.till (bestL (heldL z.L now)) now).2.2 }) := by unfold tickZ; rw [if_neg (by simpa using hn)]
    rw [ht]
    obtain ⟨i0, hi0, hz0, hz1, hz2⟩ := info_parts infoO
    obtain ⟨v, h⟩ := h
    obtain ⟨c0, c1, c2, c3, c4, c5, c6⟩ := h.cells
    obtain ⟨a, c, rfl, ho⟩ := h.off
    obtain ⟨len, hl⟩ : ∃ len, z.L.length = len := ⟨_, rfl⟩
    have hlen := hi.len
    have hrb := h.lt
    have H := Lib.hid h
    have HL := Lib.hid hl
    have HO := Lib.hid ho
    have e1 : -9223372036854775808 ≤ now + 3 ∧ now + 3 ≤ 9223372036854775807 := by unfold momB at hn; omega
    rw [hl] at c3 hlen
    have C3 := Lib.hid c3
    have hmx := Nat.le_trans (List.length_filter_le (fun o : OffT => decide (now < o.till)) z.L) hi.len
    have HMX : RowKit.Hid ((heldL z.L now).length ≤ 64) := hmx
    clear h ho hl hn c0 c1 c2 c4 c5 c6 ht hi hmx
    go_enter Try.func15, Try.ntmps15
    go_wp2_with (go_at_call 25; refine (hm _).mono ?_; rintro e w1 ⟨rfl, hww⟩; have hww := hww.symm; subst hww)
    go_loopw [6, 7] (fun v i wr => ∃ (k n : Nat) (A : Option Addr) (c : Nat) (rl : List OffT), k ≤ len ∧ i = .int .i64 k ∧ v = .slice A n c ∧ RowKit.Hid (rl.length = n ∧ n ≤ k ∧ rl = heldL (z.L.take k) now ∧ OwnO 54 wr w.heap.size (.slice A n c) rl ∧ Below w.heap.size w wr)) (fun _ i _ => len - (intOf i).toNat)
    case atStart => exact ⟨0, 0, Option.none, 0, [], Nat.zero_le _, rfl, rfl, ⟨rfl, Nat.le_refl _, rfl, OwnO.nil _ _ _, Below.refl _ _⟩⟩
    case round =>
      obtain ⟨k, n, A, cp, rl, hk, rfl, rfl, HR⟩ := hrel
      obtain ⟨r1, r2, r3, r4, r5⟩ := HR.out
      have R4 := Lib.hid r4
      have R5 := Lib.hid r5
      have hsz := r5.size
      have y3 : wr.cell? ⟨rb, 3, Option.none⟩ = some (.slice a len c) := (r5.cell (p := ⟨rb, 3, Option.none⟩) hrb).trans C3.out
      have yz : ∀ j, wr.frozen? ⟨rb, j, Option.none⟩ = false := (H.out.below r5).frozen
      by_cases hlt : k < len
      · obtain ⟨o, hok⟩ : ∃ o, z.L[k]? = some o := ⟨_, List.getElem?_eq_getElem (by have := HL.out; omega)⟩
        obtain ⟨g, rfl, hc, hg, hgb, x0, x1, x2⟩ := HO.out k o hok
        rw [HL.out] at hc
        have x0 := (r5.cell (p := ⟨g, k * 3, Option.none⟩) hg).trans x0
        have x1 := (r5.cell (p := ⟨g, k * 3 + 1, Option.none⟩) hg).trans x1
        have x2 := (r5.cell (p := ⟨g, k * 3 + 2, Option.none⟩) hg).trans x2
        have hn := held_next (now := now) hok
        by_cases hq : now < o.till
        · rw [if_pos hq] at hn
          have hw1 : Below w.heap.size w (wr.alloc (.cells #[.int .i64 o.link, .int .i64 o.level, .int .i64 o.till] 54)) := r5.alloc r5.size _
          have ho1 : OwnO 54 (wr.alloc (.cells #[.int .i64 o.link, .int .i64 o.level, .int .i64 o.till] 54)) w.heap.size (.slice A n cp) rl := r4.below ((Below.refl _ _).alloc (Nat.le_refl _) _)
          have hbx := box_cells 54 wr o
          have R3 : RowKit.Hid (heldL (z.L.take (k + 1)) now = rl ++ [o]) := by rw [hn, ← r3]; exact rfl
          have R1 := Lib.hid r1
          have HW1 := Lib.hid hw1
          have HO1 := Lib.hid ho1
          have HBX := Lib.hid hbx
          clear hok hn r1 r3 r4 r5 HR hw1 ho1 hbx
          go_wp2_with (at_builtin; refine wpList_append_own _ rfl _ _ 47 rfl w.heap.size 54 i0 (.agg #[.int .i64 0, .int .i64 0, .int .i64 0]) 3 24 Try.underlying47 hi0 hz0 hz1 hz2 rfl (by decide) _ _ _ rfl HO1.out ⟨wr.heap.size, 0, Option.none⟩ 1 1 (cellsO o) rfl rfl HBX.out (cellsO_one o) (by rw [R1.out]; unfold maxLen; omega) (by rw [R1.out]; omega) HW1.out.size ?_; intro v1 w2 ho2 hg2 _; have hs2 := OwnO.snoc ho2; have hb2 : Below w.heap.size w w2 := HW1.out.grown hg2 HW1.out.size (fun j hj => (World.ownsRow.lt HO1.out j hj).1); obtain ⟨A1, c1, rfl⟩ := hs2.shape; have HN : RowKit.Hid ((rl ++ [o]).length = rl.length + 1 ∧ rl.length + 1 ≤ k + 1 ∧ rl ++ [o] = heldL (z.L.take (k + 1)) now ∧ OwnO 54 w2 w.heap.size (.slice A1 (rl.length + 1) c1) (rl ++ [o]) ∧ Below w.heap.size w w2) := ⟨(by simp), (by rw [R1.out]; omega), R3.out.symm, (by simpa using hs2), hb2⟩; clear ho2 hg2 hs2 hb2)
          go_roundw
          case rel => exact ⟨k + 1, _, A1, c1, rl ++ [o], by omega, by go_num, rfl, HN⟩
          case measure => simp [intOf]; omega
        · rw [if_neg hq] at hn
          have HN : RowKit.Hid (rl.length = n ∧ n ≤ k + 1 ∧ rl = heldL (z.L.take (k + 1)) now ∧ OwnO 54 wr w.heap.size (.slice A n cp) rl ∧ Below w.heap.size w wr) := ⟨r1, by omega, by rw [hn]; exact r3, r4, r5⟩
          clear hok hn r1 r3 r4 r5 HR
          go_wp2
          go_roundw
          case rel => exact ⟨k + 1, n, A, cp, rl, by omega, by go_num, rfl, HN⟩
          case measure => simp [intOf]; omega
      · obtain rfl : k = len := by omega
        have hf : z.L.take k = z.L := List.take_of_length_le (by rw [HL.out]; omega)
        rw [hf] at r3
        have n1 := H.out.storeN R5.out R4.out
        rw [r3] at n1
        obtain ⟨W1, hW1⟩ : ∃ W1, wr.setCell ⟨rb, 3, Option.none⟩ (.slice A n cp) = W1 := ⟨_, rfl⟩
        rw [hW1] at n1
        have hbb := rbest_any n1.ref (by have := HMX.out; show (heldL z.L now).length ≤ 1000; omega)
        obtain ⟨m4, m5, m6, mz⟩ := n1.cells
        simp only at m4 m5 m6 hbb
        have HW1 := Lib.hid hW1
        have N1 := Lib.hid n1
        have hwb : ∀ (e : Ending) (w' : World), e = .returned (.int .i64 (bestL (heldL z.L now))) ∧ w' = W1 → e = .returned (.int .i64 (bestL (heldL z.L now))) ∧ W1 = w' := fun e w' q => ⟨q.1, q.2.symm⟩
        have hbb := hbb.mono hwb
        obtain ⟨b, hb⟩ : ∃ b, bestL (heldL z.L now) = b := ⟨_, rfl⟩
        rw [hb] at hbb
        have HBE := Lib.hid hb
        clear hf r1 r3 r4 r5 HR hW1 n1 hwb hb
        cases hd : z.down
        · by_cases u1 : z.taken < b
          · have hk : takeZ z.taken z.down z.till b now = (b, z.down, z.till) := by rw [hd]; exact takeZ_up u1
            have HK := Lib.hid hk
            clear hk
            rw [hd] at m5
            clear hd
            go_wp2_with (go_at_call 19; rw [HW1.out]; refine hbb.mono ?_; rintro e w9 ⟨rfl, rfl⟩)
            all_goals go_ret
            all_goals rw [HBE.out, HK.out]
            all_goals exact ⟨rfl, RefN.zend (N1.out.put (z' := { z with L := heldL z.L now, taken := b, down := z.down, till := z.till }) rfl (fun _ => rfl))⟩
          · by_cases u2 : b < z.taken
            · have hk : takeZ z.taken z.down z.till b now = (0, true, now + 3) := by exact takeZ_fall u2
              have HK := Lib.hid hk
              clear hk
              rw [hd] at m5
              clear hd
              go_wp2_with (go_at_call 19; rw [HW1.out]; refine hbb.mono ?_; rintro e w9 ⟨rfl, rfl⟩)
              all_goals go_ret
              all_goals rw [HBE.out, HK.out]
              all_goals exact ⟨rfl, RefN.zend (((N1.out.put (z' := { z with L := heldL z.L now, taken := 0, down := z.down, till := z.till }) rfl (fun _ => rfl)).put (z' := { z with L := heldL z.L now, taken := 0, down := true, till := z.till }) rfl (fun _ => rfl)).put (z' := { z with L := heldL z.L now, taken := 0, down := true, till := now + 3 }) rfl (fun _ => rfl))⟩
            · have hk : takeZ z.taken z.down z.till b now = (z.taken, z.down, z.till) := by rw [hd, show z.taken = b by omega]; exact takeZ_same
              have HK := Lib.hid hk
              clear hk
              rw [hd] at m5
              clear hd
              go_wp2_with (go_at_call 19; rw [HW1.out]; refine hbb.mono ?_; rintro e w9 ⟨rfl, rfl⟩)
              all_goals go_ret
              all_goals rw [HBE.out, HK.out]
              all_goals exact ⟨rfl, RefN.zend N1.out⟩
        · by_cases u2 : b < z.taken
          · have hk : takeZ z.taken z.down z.till b now = (0, true, now + 3) := by exact takeZ_fall u2
            have HK := Lib.hid hk
            clear hk
            rw [hd] at m5
            clear hd
            go_wp2_with (go_at_call 19; rw [HW1.out]; refine hbb.mono ?_; rintro e w9 ⟨rfl, rfl⟩)
            all_goals go_ret
            all_goals rw [HBE.out, HK.out]
            all_goals exact ⟨rfl, RefN.zend (((N1.out.put (z' := { z with L := heldL z.L now, taken := 0, down := z.down, till := z.till }) rfl (fun _ => rfl)).put (z' := { z with L := heldL z.L now, taken := 0, down := true, till := z.till }) rfl (fun _ => rfl)).put (z' := { z with L := heldL z.L now, taken := 0, down := true, till := now + 3 }) rfl (fun _ => rfl))⟩
          · by_cases u3 : z.till ≤ now
            · have hk : takeZ z.taken z.down z.till b now = (b, false, z.till) := by rw [hd]; exact takeZ_end (by omega) u3
              have HK := Lib.hid hk
              clear hk
              rw [hd] at m5
              clear hd
              go_wp2_with (go_at_call 19; rw [HW1.out]; refine hbb.mono ?_; rintro e w9 ⟨rfl, rfl⟩)
              all_goals go_ret
              all_goals rw [HBE.out, HK.out]
              all_goals exact ⟨rfl, RefN.zend ((N1.out.put (z' := { z with L := heldL z.L now, taken := z.taken, down := false, till := z.till }) rfl (fun _ => rfl)).put (z' := { z with L := heldL z.L now, taken := b, down := false, till := z.till }) rfl (fun _ => rfl))⟩
            · have hk : takeZ z.taken z.down z.till b now = (z.taken, z.down, z.till) := by rw [hd]; exact takeZ_down (by omega) (by omega)
              have HK := Lib.hid hk
              clear hk
              rw [hd] at m5
              clear hd
              go_wp2_with (go_at_call 19; rw [HW1.out]; refine hbb.mono ?_; rintro e w9 ⟨rfl, rfl⟩)
              all_goals go_ret
              all_goals rw [HBE.out, HK.out]
              all_goals exact ⟨rfl, RefN.zend N1.out⟩
  · rw [decide_eq_false hn] at hm
    have ht : tickZ z now = (1, z) := by unfold tickZ; rw [if_pos hn]
    rw [ht]
    have HZ := Lib.hid (ZEnd.refl h)
    clear h hn ht hi
    go_enter Try.func15, Try.ntmps15
    go_wp2_with (go_at_call 25; refine (hm _).mono ?_; rintro e w1 ⟨rfl, rfl⟩)
    go_ret
    exact ⟨rfl, HZ.out⟩
end
end Go.Proofs.Ytfdoldefdkijoaa
