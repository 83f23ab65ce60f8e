/-
  THE DOCUMENT'S NODE: New, Offer, Tick.
-/
import Derived.Test.YtfdoldefdkijoaaZRef
import Derived.Laws.AppendOwn
namespace Go.Proofs.Ytfdoldefdkijoaa
set_option linter.unusedSimpArgs false
set_option linter.unusedVariables false
open Go.RowKit
theorem infoO : (Try.prog.info? 54).map (fun i => (i.zero, i.size, i.bytes)) = some (some (.agg #[.int .i64 0, .int .i64 0, .int .i64 0]), 3, 24) := by kernel_rfl
theorem cellsO_one (p : OffT) : ∀ u ∈ cellsO p, u.oneCell' = true := by rw [← rowO_one]; exact rowO_one_cell
theorem OwnO.snoc {T : TypeId} {W : World} {base : Nat} {v : Value} {l : List OffT} {o : OffT} (h : W.ownsRow base T 3 v (l.length + 1) (rowO l ++ cellsO o)) : OwnO T W base v (l ++ [o]) := by
  unfold OwnO
  rw [rowO_append, rowO_one, List.length_append]
  exact h
theorem OwnO.below {T : TypeId} {W W' : World} {base : Nat} {v : Value} {l : List OffT} (h : OwnO T W base v l) (k : Below W.heap.size W W') : OwnO T W' base v l := h.same fun g hg => k.block g (World.ownsRow.lt h g hg).2
theorem box_cells (T : TypeId) (w : World) (o : OffT) : ∀ j u, (cellsO o)[j]? = some u → (w.alloc (.cells #[.int .i64 o.link, .int .i64 o.level, .int .i64 o.till] T)).cell? ((⟨w.heap.size, 0, none⟩ : Addr).add j) = some u := by
  intro j u hj
  match j, hj with
  | 0, hj => simp [cellsO] at hj; subst hj; simp [Addr.add]
  | 1, hj => simp [cellsO] at hj; subst hj; simp [Addr.add]
  | 2, hj => simp [cellsO] at hj; subst hj; simp [Addr.add]
  | j + 3, hj => simp [cellsO] at hj
/-- How a call on the document's node ends. -/
def ZEnd (w : World) (base rb : Nat) (z : ZtT) (w' : World) : Prop := RefZ w' base rb z ∧ Below base w w' ∧ KeepO [49, 54] w w'
set_option maxHeartbeats 1600000 in
set_option maxRecDepth 100000 in
theorem rnew_any (f : Int) (a b : Bool) (w : World) : Calls Try.prog 11 #[.int .i64 f, .bool a, .bool b] w fun e w' => (kindB f a b → e = .returned (.tuple #[.pointer (some ⟨w.heap.size, 0, none⟩), .int .i64 0]) ∧ RefZ w' w.heap.size w.heap.size (newZ f a b)) ∧ (¬ kindB f a b → e = .returned (.tuple #[.pointer none, .int .i64 1])) ∧ Below w.heap.size w w' := by
  have B0 : RowKit.Hid (∀ A : Obj, Below w.heap.size w (w.alloc A)) := fun A => (Below.refl _ w).alloc (Nat.le_refl _) _
  have B1 : RowKit.Hid (Below w.heap.size w w) := Below.refl _ w
  by_cases h1 : f < -1
  · have hk : ¬ kindB f a b := by unfold kindB; omega
    have HK := Lib.hid hk
    clear hk
    cases a <;> cases b
    all_goals (go_enter Try.func11, Try.ntmps11)
    all_goals go_wp2
    all_goals go_ret2
    all_goals exact ⟨fun h => absurd h HK.out, fun _ => rfl, B1.out⟩
  · by_cases h2 : 24 < f
    · have hk : ¬ kindB f a b := by unfold kindB; omega
      have HK := Lib.hid hk
      clear hk
      cases a <;> cases b
      all_goals (go_enter Try.func11, Try.ntmps11)
      all_goals go_wp2
      all_goals go_ret2
      all_goals exact ⟨fun h => absurd h HK.out, fun _ => rfl, B1.out⟩
    · have RB : RowKit.Hid (RefZ (w.alloc (.cells #[.int .i64 f, .bool a, .bool b, .slice none 0 0, .int .i64 0, .bool false, .int .i64 0] 49)) w.heap.size w.heap.size (newZ f a b)) := ⟨_, heap_alloc_new w _, OwnO.nil _ _ _, Nat.le_refl _, by simp⟩
      have HK : RowKit.Hid (kindB f a b ↔ ((0 ≤ f → a = false ∧ b = false) ∧ (a = true → b = false))) := by unfold Hid kindB; constructor; exact fun h => h.2.2; exact fun h => ⟨by omega, by omega, h⟩
      by_cases h3 : 0 ≤ f
      all_goals cases a <;> cases b
      all_goals (go_enter Try.func11, Try.ntmps11)
      all_goals go_wp2
      all_goals go_ret2
      all_goals first
        | exact ⟨fun _ => ⟨rfl, RB.out⟩, fun h => absurd (HK.out.2 (by first | (simp; done) | (simp; omega))) h, B0.out _⟩
        | exact ⟨fun h => absurd (HK.out.1 h) (by simp [h3]), fun _ => rfl, B1.out⟩
        | exact ⟨fun _ => ⟨rfl, RB.out⟩, fun h => absurd (HK.out.2 (by simp [h3])) h, B0.out _⟩
section
variable {w : World} {base rb : Nat} {z : ZtT}
theorem rest_next {L : List OffT} {link : Int} {k : Nat} {o : OffT} (h : L[k]? = some o) : restZ (L.take (k + 1)) link = if o.link = link then restZ (L.take k) link else restZ (L.take k) link ++ [o] := by
  unfold restZ
  rw [List.take_add_one, h, List.filter_append]
  by_cases q : o.link = link
  · simp [q]
  · simp [q]
theorem held_next {L : List OffT} {now : Int} {k : Nat} {o : OffT} (h : L[k]? = some o) : heldL (L.take (k + 1)) now = if now < o.till then heldL (L.take k) now ++ [o] else heldL (L.take k) now := by
  unfold heldL
  rw [List.take_add_one, h, List.filter_append]
  by_cases q : now < o.till
  · simp [q]
  · simp [q]
theorem ZEnd.refl (h : RefZ w base rb z) : ZEnd w base rb z w := ⟨h, Below.refl _ _, KeepO.refl _ _⟩
theorem RZ.zend {W : World} {v : Value} (h : RZ w base rb z v) (hb : Below w.heap.size w W) : ZEnd w base rb z W := ⟨⟨v, h.below hb⟩, hb.mono h.base, KeepO.below hb⟩
theorem RZ.store {W : World} {v v' : Value} {l : List OffT} (h : RZ w base rb z v) (hb : Below w.heap.size w W) (ho : OwnO 54 W w.heap.size v' l) : ZEnd w base rb { z with L := l } (W.setCell ⟨rb, 3, none⟩ v') := by
  have hq := h.below hb
  have hlt := h.lt
  refine ⟨⟨v', heap_setCell_same _ rb 3 _ _ _ hq.box, (ho.mono h.base).same fun g hg => heap_setCell_other _ _ _ _ fun e => ?_, h.le, by have := hq.base; simp; omega⟩, (hb.mono h.base).setCell (p := ⟨rb, 3, none⟩) h.le v', (KeepO.below hb).trans (KeepO.setCell hq.box (by decide) v')⟩
  have := (World.ownsRow.lt ho g hg).1
  simp only at e
  omega
set_option maxHeartbeats 3200000 in
set_option maxRecDepth 100000 in
theorem roffer_arg (h : RefZ w base rb z) (link level : Int) (none : Bool) (now : Int) (ha : ¬ offArg link level now) : Calls Try.prog 13 #[.pointer (some ⟨rb, 0, Option.none⟩), .int .i64 link, .int .i64 level, .bool none, .int .i64 now] w fun e w' => e = .returned (.int .i64 (offerZ z link level none now).1) ∧ ZEnd w base rb (offerZ z link level none now).2 w' := by
  have he : offerZ z link level none now = (1, z) := by unfold offerZ; rw [if_pos ha]
  rw [he]
  have HZ := Lib.hid (ZEnd.refl h)
  have hm := rmoment_any now
  have ha2 := ha
  unfold offArg at ha2
  have HA := Lib.hid ha2
  clear h ha he ha2
  by_cases h1 : link < 0
  · go_enter Try.func13, Try.ntmps13
    go_wp2_with (go_at_call 25; refine (hm _).mono ?_; rintro e w1 ⟨rfl, rfl⟩)
    go_ret
    exact ⟨rfl, HZ.out⟩
  · by_cases h2 : 65535 < link
    · go_enter Try.func13, Try.ntmps13
      go_wp2_with (go_at_call 25; refine (hm _).mono ?_; rintro e w1 ⟨rfl, rfl⟩)
      go_ret
      exact ⟨rfl, HZ.out⟩
    · by_cases h3 : level < -1
      · go_enter Try.func13, Try.ntmps13
        go_wp2_with (go_at_call 25; refine (hm _).mono ?_; rintro e w1 ⟨rfl, rfl⟩)
        go_ret
        exact ⟨rfl, HZ.out⟩
      · by_cases h4 : 24 < level
        · go_enter Try.func13, Try.ntmps13
          go_wp2_with (go_at_call 25; refine (hm _).mono ?_; rintro e w1 ⟨rfl, rfl⟩)
          go_ret
          exact ⟨rfl, HZ.out⟩
        · have h5 : ¬ momB now := fun q => HA.out ⟨by omega, by omega, by omega, by omega, q⟩
          rw [decide_eq_false h5] at hm
          clear h5
          go_enter Try.func13, Try.ntmps13
          go_wp2_with (go_at_call 25; refine (hm _).mono ?_; rintro e w1 ⟨rfl, rfl⟩)
          go_ret
          exact ⟨rfl, HZ.out⟩
set_option maxHeartbeats 6400000 in
set_option maxRecDepth 100000 in
theorem roffer_ok (h : RefZ w base rb z) (hlen : z.L.length ≤ 64) (link level : Int) (none : Bool) (now : Int) (ha : offArg link level now) : Calls Try.prog 13 #[.pointer (some ⟨rb, 0, Option.none⟩), .int .i64 link, .int .i64 level, .bool none, .int .i64 now] w fun e w' => e = .returned (.int .i64 (offerZ z link level none now).1) ∧ ZEnd w base rb (offerZ z link level none now).2 w' := by
  obtain ⟨i0, hi0, hz0, hz1, hz2⟩ := info_parts infoO
  obtain ⟨v, h⟩ := h
  obtain ⟨c0, c1, c2, c3, c4, c5, c6⟩ := h.cells
  obtain ⟨a, c, rfl, ho⟩ := h.off
  obtain ⟨len, hl⟩ : ∃ len, z.L.length = len := ⟨_, rfl⟩
  have hrb := h.lt
  have H := Lib.hid h
  have fz := h.frozen
  have HL := Lib.hid hl
  have HO := Lib.hid ho
  have hm := rmoment_any now
  have ha2 := ha
  unfold offArg at ha2
  obtain ⟨g1, g2, g3, g4, g5⟩ := ha2
  rw [decide_eq_true g5] at hm
  have e1 : -9223372036854775808 ≤ now + 4 ∧ now + 4 ≤ 9223372036854775807 := by unfold momB at g5; omega
  have HA := Lib.hid ha
  rw [hl] at c3 hlen
  have C3 := Lib.hid c3
  have FZ := Lib.hid fz
  clear h ho hl ha g5 c0 c1 c2 c4 c5 c6
  go_enter Try.func13, Try.ntmps13
  go_wp2_with (go_at_call 25; refine (hm _).mono ?_; rintro e w1 ⟨rfl, hww⟩; have hww := hww.symm; subst hww)
  go_loopw [12, 13] (fun v i wr => ∃ (k n : Nat) (A : Option Addr) (c : Nat) (rl : List OffT), k ≤ len ∧ i = .int .i64 k ∧ v = .slice A n c ∧ RowKit.Hid (rl.length = n ∧ n ≤ k ∧ rl = restZ (z.L.take k) link ∧ OwnO 54 wr w.heap.size (.slice A n c) rl ∧ Below w.heap.size w wr)) (fun _ i _ => len - (intOf i).toNat)
  case atStart => exact ⟨0, 0, Option.none, 0, [], Nat.zero_le _, rfl, rfl, ⟨rfl, Nat.le_refl _, rfl, OwnO.nil _ _ _, Below.refl _ _⟩⟩
  case round =>
    obtain ⟨k, n, A, cp, rl, hk, rfl, rfl, HR⟩ := hrel
    obtain ⟨r1, r2, r3, r4, r5⟩ := HR.out
    have R4 := Lib.hid r4
    have R5 := Lib.hid r5
    have hsz := r5.size
    have y3 : wr.cell? ⟨rb, 3, Option.none⟩ = some (.slice a len c) := (r5.cell (p := ⟨rb, 3, Option.none⟩) hrb).trans C3.out
    have yz : ∀ j, wr.frozen? ⟨rb, j, Option.none⟩ = false := (H.out.below r5).frozen
    by_cases hlt : k < len
    · obtain ⟨o, hok⟩ : ∃ o, z.L[k]? = some o := ⟨_, List.getElem?_eq_getElem (by have := HL.out; omega)⟩
      obtain ⟨g, rfl, hc, hg, hgb, x0, x1, x2⟩ := HO.out k o hok
      rw [HL.out] at hc
      have x0 := (r5.cell (p := ⟨g, k * 3, Option.none⟩) hg).trans x0
      have x1 := (r5.cell (p := ⟨g, k * 3 + 1, Option.none⟩) hg).trans x1
      have x2 := (r5.cell (p := ⟨g, k * 3 + 2, Option.none⟩) hg).trans x2
      have hn := rest_next (link := link) hok
      by_cases hq : o.link = link
      · rw [if_pos hq] at hn
        have b0 : (o.link == link) = true := by simpa using hq
        have HN : RowKit.Hid (rl.length = n ∧ n ≤ k + 1 ∧ rl = restZ (z.L.take (k + 1)) link ∧ OwnO 54 wr w.heap.size (.slice A n cp) rl ∧ Below w.heap.size w wr) := ⟨r1, by omega, by rw [hn]; exact r3, r4, r5⟩
        clear hok hn hq r1 r3 r4 r5 HR
        go_wp2
        go_roundw
        case rel => exact ⟨k + 1, n, A, cp, rl, by omega, by go_num, rfl, HN⟩
        case measure => simp [intOf]; omega
      · rw [if_neg hq] at hn
        have b0 : (o.link == link) = false := by simpa using hq
        have hw1 : Below w.heap.size w (wr.alloc (.cells #[.int .i64 o.link, .int .i64 o.level, .int .i64 o.till] 54)) := r5.alloc r5.size _
        have ho1 : OwnO 54 (wr.alloc (.cells #[.int .i64 o.link, .int .i64 o.level, .int .i64 o.till] 54)) w.heap.size (.slice A n cp) rl := r4.below ((Below.refl _ _).alloc (Nat.le_refl _) _)
        have hbx := box_cells 54 wr o
        have R3 : RowKit.Hid (restZ (z.L.take (k + 1)) link = rl ++ [o]) := by rw [hn, ← r3]; exact rfl
        have R1 := Lib.hid r1
        have HW1 := Lib.hid hw1
        have HO1 := Lib.hid ho1
        have HBX := Lib.hid hbx
        clear hok hn hq r1 r3 r4 r5 HR hw1 ho1 hbx
        go_wp2_with (at_builtin; refine wpList_append_own _ rfl _ _ 47 rfl w.heap.size 54 i0 (.agg #[.int .i64 0, .int .i64 0, .int .i64 0]) 3 24 Try.underlying47 hi0 hz0 hz1 hz2 rfl (by decide) _ _ _ rfl HO1.out ⟨wr.heap.size, 0, Option.none⟩ 1 1 (cellsO o) rfl rfl HBX.out (cellsO_one o) (by rw [R1.out]; unfold maxLen; omega) (by rw [R1.out]; omega) HW1.out.size ?_; intro v1 w2 ho2 hg2 _; have hs2 := OwnO.snoc ho2; have hb2 : Below w.heap.size w w2 := HW1.out.grown hg2 HW1.out.size (fun j hj => (World.ownsRow.lt HO1.out j hj).1); obtain ⟨A1, c1, rfl⟩ := hs2.shape; have HN : RowKit.Hid ((rl ++ [o]).length = rl.length + 1 ∧ rl.length + 1 ≤ k + 1 ∧ rl ++ [o] = restZ (z.L.take (k + 1)) link ∧ OwnO 54 w2 w.heap.size (.slice A1 (rl.length + 1) c1) (rl ++ [o]) ∧ Below w.heap.size w w2) := ⟨(by simp), (by rw [R1.out]; omega), R3.out.symm, (by simpa using hs2), hb2⟩; clear ho2 hg2 hs2 hb2)
        go_roundw
        case rel => exact ⟨k + 1, _, A1, c1, rl ++ [o], by omega, by go_num, rfl, HN⟩
        case measure => simp [intOf]; omega
    · obtain rfl : k = len := by omega
      have hf : z.L.take k = z.L := List.take_of_length_le (by rw [HL.out]; omega)
      rw [hf] at r3
      by_cases hd : level < 1 ∨ none = true
      · have he : offerZ z link level none now = (0, { z with L := restZ z.L link }) := by unfold offerZ; rw [if_neg (by simpa using HA.out), if_pos hd]
        have HE := Lib.hid he
        have R3 := Lib.hid r3
        clear he r1 r3 r4 r5 HR hf
        by_cases hd1 : level < 1
        · clear hd
          go_wp2
          go_ret
          rw [HE.out]
          exact ⟨rfl, by rw [← R3.out]; exact H.out.store R5.out R4.out⟩
        · obtain rfl : none = true := by rcases hd with q | q; exact absurd q hd1; exact q
          clear hd
          go_wp2
          go_ret
          rw [HE.out]
          exact ⟨rfl, by rw [← R3.out]; exact H.out.store R5.out R4.out⟩
      · have hd1 : ¬ level < 1 := fun q => hd (.inl q)
        obtain rfl : none = false := by cases none; rfl; exact absurd (.inr rfl) hd
        by_cases h6 : 64 ≤ n
        · have he : offerZ z link level false now = (3, z) := by unfold offerZ; rw [if_neg (by simpa using HA.out), if_neg hd, if_pos (by rw [← r3, r1]; exact h6)]
          have HE := Lib.hid he
          clear he r1 r3 r4 r5 HR hf hd
          go_wp2
          go_ret
          rw [HE.out]
          exact ⟨rfl, H.out.zend R5.out⟩
        · have he : offerZ z link level false now = (0, { z with L := restZ z.L link ++ [⟨link, level, now + 4⟩] }) := by unfold offerZ; rw [if_neg (by simpa using HA.out), if_neg hd, if_neg (by rw [← r3, r1]; exact h6)]
          have HE := Lib.hid he
          have R3 := Lib.hid r3
          have R1 := Lib.hid r1
          have hw1 : Below w.heap.size w (wr.alloc (.cells #[.int .i64 link, .int .i64 level, .int .i64 (now + 4)] 54)) := r5.alloc r5.size _
          have ho1 : OwnO 54 (wr.alloc (.cells #[.int .i64 link, .int .i64 level, .int .i64 (now + 4)] 54)) w.heap.size (.slice A n cp) rl := r4.below ((Below.refl _ _).alloc (Nat.le_refl _) _)
          have hbx := box_cells 54 wr ⟨link, level, now + 4⟩
          have HW1 := Lib.hid hw1
          have HO1 := Lib.hid ho1
          have HBX := Lib.hid hbx
          clear he r1 r3 r4 r5 HR hf hd hw1 ho1 hbx
          go_wp2_with (at_builtin; refine wpList_append_own _ rfl _ _ 47 rfl w.heap.size 54 i0 (.agg #[.int .i64 0, .int .i64 0, .int .i64 0]) 3 24 Try.underlying47 hi0 hz0 hz1 hz2 rfl (by decide) _ _ _ rfl HO1.out ⟨wr.heap.size, 0, Option.none⟩ 1 1 (cellsO ⟨link, level, now + 4⟩) rfl rfl HBX.out (cellsO_one _) (by rw [R1.out]; unfold maxLen; omega) (by rw [R1.out]; omega) HW1.out.size ?_; intro v1 w2 ho2 hg2 _; have hs2 := OwnO.snoc ho2; have hb2 : Below w.heap.size w w2 := HW1.out.grown hg2 HW1.out.size (fun j hj => (World.ownsRow.lt HO1.out j hj).1); have q3 : w2.cell? ⟨rb, 3, Option.none⟩ = some (.slice a k c) := (hb2.cell (p := ⟨rb, 3, Option.none⟩) hrb).trans C3.out; have qz : ∀ j, w2.frozen? ⟨rb, j, Option.none⟩ = false := (H.out.below hb2).frozen; obtain ⟨A1, c1, rfl⟩ := hs2.shape; have S2 : RowKit.Hid (OwnO 54 w2 w.heap.size (.slice A1 (rl.length + 1) c1) (rl ++ ([⟨link, level, now + 4⟩] : List OffT))) := (by unfold RowKit.Hid; have q := hs2; rw [List.length_append] at q; exact q); have B2 := Lib.hid hb2; clear ho2 hg2 hs2 hb2)
          go_ret
          rw [HE.out]
          exact ⟨rfl, by rw [← R3.out]; exact H.out.store B2.out S2.out⟩
theorem roffer_any (h : RefZ w base rb z) (hi : InvZ z) (link level : Int) (none : Bool) (now : Int) : Calls Try.prog 13 #[.pointer (some ⟨rb, 0, Option.none⟩), .int .i64 link, .int .i64 level, .bool none, .int .i64 now] w fun e w' => e = .returned (.int .i64 (offerZ z link level none now).1) ∧ ZEnd w base rb (offerZ z link level none now).2 w' := by
  by_cases ha : offArg link level now
  · exact roffer_ok h hi.len link level none now ha
  · exact roffer_arg h link level none now ha
end
end Go.Proofs.Ytfdoldefdkijoaa
