/-
  THE PROGRAM'S NODE: Offer, Quiet.
-/
import Derived.Test.YtfdoldefdkijoaaZPBest
namespace Go.Proofs.Ytfdoldefdkijoaa
set_option linter.unusedSimpArgs false
set_option linter.unusedVariables false
open Go.ChangeMaps Go.MapKept Go.Maps Go.RowKit
section
variable {w W : World} {base pb mb : Nat} {z : ZtT}
theorem rest_find {L : List OffT} {k : Int} (hn : (L.map OffT.link).Nodup) : (restZ L k).length + (if (findL L k).isSome = true then 1 else 0) = L.length := by
  induction L with
  | nil => rfl
  | cons o L ih =>
    rw [List.map_cons, List.nodup_cons] at hn
    have ih := ih hn.2
    by_cases e : o.link = k
    · have h1 : findL (o :: L) k = some o := by unfold findL; rw [List.find?_cons_of_pos (by simpa using e)]
      have h2 : findL L k = none := find_not fun x hx q => hn.1 (List.mem_map.2 ⟨x, hx, by rw [q, e]⟩)
      rw [h2] at ih
      rw [h1]
      have h3 : restZ (o :: L) k = restZ L k := by unfold restZ; rw [List.filter_cons_of_neg (by simpa using e)]
      rw [h3]
      simp at ih ⊢
      omega
    · have h1 : findL (o :: L) k = findL L k := by unfold findL; rw [List.find?_cons_of_neg (by simpa using e)]
      have h3 : restZ (o :: L) k = o :: restZ L k := by unfold restZ; rw [List.filter_cons_of_pos (by simpa using e)]
      rw [h1, h3]
      simp only [List.length_cons]
      omega
theorem wpList_delete_M {ops : Array Oper} {rest : List Oper} {o : Oper} {a : Act} {Q : Exit → Act → World → Prop} (X : World) (hg : o.guard = none) (m x : Operand) (hop : o.op = Op.call { callee := Callee.builtin Builtin.delete, args := #[m, x], argTypes := #[44, 3] })
    (b : Nat) (L : List OffT) (hm : a.eval m = .map (some b)) (h : MapZ X b L) (k : Int) (hk : InI k) (hx : a.eval x = .int .i64 k)
    (hK : ∀ w', MapZ w' b (restZ L k) → X.mapTurned w' b → wpList Try.prog ops Q rest (a.put o.dst (.tuple #[])) w') :
    wpList Try.prog ops Q (o :: rest) a X := by
  refine wpList_plain hg fun K' hK' => ?_
  obtain ⟨w', hrun, r1, r2⟩ := h.drop hk o.type
  unfold Oper.wp
  simp [execOp, hop, resolve, invoke, builtin, hm, hx, hrun, Result.andThen]
  exact hK' _ _ (hK w' r1 r2)
theorem wpList_put_M {ops : Array Oper} {rest : List Oper} {o : Oper} {a : Act} {Q : Exit → Act → World → Prop} (X : World) (hg : o.guard = none) (m x v : Operand) (hop : o.op = Op.mapUpdate 44 m x v)
    (b : Nat) (L : List OffT) (hm : a.eval m = .map (some b)) (h : MapZ X b L) (hl : L.length < maxLen) (k : Int) (hk : InI k) (hx : a.eval x = .int .i64 k) (p t : Int) (hv : a.eval v = .agg #[.int .i64 p, .int .i64 t])
    (hK : ∀ w', MapZ w' b (restZ L k ++ [⟨k, p, t⟩]) → X.mapTurned w' b → wpList Try.prog ops Q rest (a.put o.dst undef) w') :
    wpList Try.prog ops Q (o :: rest) a X := by
  refine wpList_plain hg fun K' hK' => ?_
  obtain ⟨w', hrun, r1, r2⟩ := h.put hl hk p t
  unfold Oper.wp
  simp [execOp, hop, hm, hx, hv, hrun, Result.andThen]
  exact hK' _ _ (hK w' r1 r2)
theorem inI_link {k : Int} (h : 0 ≤ k ∧ k ≤ 65535) : InI k := by unfold InI; omega
set_option maxHeartbeats 3200000 in
set_option maxRecDepth 100000 in
theorem poffer_arg (h : ProgZ w base pb z) (link level : Int) (none : Bool) (now : Int) (ha : ¬ offArg link level now) : Calls Try.prog 12 #[.pointer (some ⟨pb, 0, Option.none⟩), .int .i64 link, .int .i64 level, .bool none, .int .i64 now] w fun e w' => e = .returned (.int .i64 (offerZ z link level none now).1) ∧ PEnd w base pb (offerZ z link level none now).2 w' := by
  have he : offerZ z link level none now = (1, z) := by unfold offerZ; rw [if_pos ha]
  rw [he]
  have HZ : Hid (PEnd w base pb z w) := by obtain ⟨mb, h⟩ := h; exact h.pend (Below.refl _ _)
  have h1 := within_any link 0 65535 w
  have h2 := plevelOk_any level w
  have h3 := ptimeOk_any now w
  clear h he
  by_cases q1 : 0 ≤ link ∧ link ≤ 65535
  · rw [decide_eq_true q1] at h1
    by_cases q2 : -1 ≤ level ∧ level ≤ 24
    · rw [decide_eq_true q2] at h2
      have q3 : ¬ momB now := fun q => ha ⟨q1.1, q1.2, q2.1, q2.2, q⟩
      rw [decide_eq_false q3] at h3
      clear q1 q2 q3 ha
      go_enter Try.func12, Try.ntmps12
      go_wp2_with (first | (go_at_call 23; refine h1.mono ?_; rintro e w1 ⟨rfl, hww⟩; have hww := hww.symm; subst hww) | (go_at_call 22; refine h2.mono ?_; rintro e w1 ⟨rfl, hww⟩; have hww := hww.symm; subst hww) | (go_at_call 24; refine h3.mono ?_; rintro e w1 ⟨rfl, hww⟩; have hww := hww.symm; subst hww))
      go_ret
      exact ⟨rfl, HZ.out⟩
    · rw [decide_eq_false q2] at h2
      clear q1 q2 ha
      go_enter Try.func12, Try.ntmps12
      go_wp2_with (first | (go_at_call 23; refine h1.mono ?_; rintro e w1 ⟨rfl, hww⟩; have hww := hww.symm; subst hww) | (go_at_call 22; refine h2.mono ?_; rintro e w1 ⟨rfl, hww⟩; have hww := hww.symm; subst hww) | (go_at_call 24; refine h3.mono ?_; rintro e w1 ⟨rfl, hww⟩; have hww := hww.symm; subst hww))
      go_ret
      exact ⟨rfl, HZ.out⟩
  · rw [decide_eq_false q1] at h1
    clear q1 ha
    go_enter Try.func12, Try.ntmps12
    go_wp2_with (first | (go_at_call 23; refine h1.mono ?_; rintro e w1 ⟨rfl, hww⟩; have hww := hww.symm; subst hww) | (go_at_call 22; refine h2.mono ?_; rintro e w1 ⟨rfl, hww⟩; have hww := hww.symm; subst hww) | (go_at_call 24; refine h3.mono ?_; rintro e w1 ⟨rfl, hww⟩; have hww := hww.symm; subst hww))
    go_ret
    exact ⟨rfl, HZ.out⟩
set_option maxHeartbeats 3200000 in
set_option maxRecDepth 100000 in
theorem poffer_ok (h : ProgZ w base pb z) (hi : InvZ z) (link level : Int) (none : Bool) (now : Int) (ha : offArg link level now) : Calls Try.prog 12 #[.pointer (some ⟨pb, 0, Option.none⟩), .int .i64 link, .int .i64 level, .bool none, .int .i64 now] w fun e w' => e = .returned (.int .i64 (offerZ z link level none now).1) ∧ PEnd w base pb (offerZ z link level none now).2 w' := by
  obtain ⟨mb, h⟩ := h
  obtain ⟨c0, c1, c2, c3⟩ := h.cells
  have hmap := h.map
  have hlt := h.lt
  have hml := hmap.lt
  have HM := Lib.hid hmap
  have HN := rest_find (k := link) hi.nd
  have hlen := hi.len
  have HP := Lib.hid h
  have h1 := within_any link 0 65535 w
  have h2 := plevelOk_any level w
  have h3 := ptimeOk_any now w
  have ha2 := ha
  unfold offArg at ha2
  obtain ⟨g1, g2, g3, g4, g5⟩ := ha2
  rw [decide_eq_true (⟨g1, g2⟩ : 0 ≤ link ∧ link ≤ 65535)] at h1
  rw [decide_eq_true (⟨g3, g4⟩ : -1 ≤ level ∧ level ≤ 24)] at h2
  rw [decide_eq_true g5] at h3
  have e1 : -9223372036854775808 ≤ now + 4 ∧ now + 4 ≤ 9223372036854775807 := by unfold momB at g5; omega
  have HK : Hid (InI link) := inI_link ⟨g1, g2⟩
  have HA := Lib.hid ha
  clear h hmap hi ha g5 g3 g4
  by_cases hd : level < 1 ∨ none = true
  · have he : offerZ z link level none now = (0, { z with L := restZ z.L link }) := by unfold offerZ; rw [if_neg (by simpa using HA.out), if_pos hd]
    have HE := Lib.hid he
    clear he HN
    by_cases hd1 : level < 1
    · clear hd
      go_enter Try.func12, Try.ntmps12
      go_wp2_with (first | (go_at_call 23; refine h1.mono ?_; rintro e w1 ⟨rfl, hww⟩; have hww := hww.symm; subst hww) | (go_at_call 22; refine h2.mono ?_; rintro e w1 ⟨rfl, hww⟩; have hww := hww.symm; subst hww) | (go_at_call 24; refine h3.mono ?_; rintro e w1 ⟨rfl, hww⟩; have hww := hww.symm; subst hww) | (at_delete; refine wpList_delete_M _ rfl _ _ rfl mb z.L rfl HM.out link HK.out rfl ?_; intro w2 hm2 ht2; have HF := Lib.hid (HP.out.turn (Below.refl _ _) ht2 hm2); clear hm2 ht2))
      go_ret
      rw [HE.out]
      exact ⟨rfl, HF.out⟩
    · obtain rfl : none = true := by rcases hd with q | q; exact absurd q hd1; exact q
      clear hd
      go_enter Try.func12, Try.ntmps12
      go_wp2_with (first | (go_at_call 23; refine h1.mono ?_; rintro e w1 ⟨rfl, hww⟩; have hww := hww.symm; subst hww) | (go_at_call 22; refine h2.mono ?_; rintro e w1 ⟨rfl, hww⟩; have hww := hww.symm; subst hww) | (go_at_call 24; refine h3.mono ?_; rintro e w1 ⟨rfl, hww⟩; have hww := hww.symm; subst hww) | (at_delete; refine wpList_delete_M _ rfl _ _ rfl mb z.L rfl HM.out link HK.out rfl ?_; intro w2 hm2 ht2; have HF := Lib.hid (HP.out.turn (Below.refl _ _) ht2 hm2); clear hm2 ht2))
      go_ret
      rw [HE.out]
      exact ⟨rfl, HF.out⟩
  · have hd1 : ¬ level < 1 := fun q => hd (.inl q)
    obtain rfl : none = false := by cases none; rfl; exact absurd (.inr rfl) hd
    have HLK : Hid (∀ W' : World, W'.heap[mb]? = w.heap[mb]? → (Instr.lookup 44 (.map (some mb)) (.int .i64 link) true).run Try.prog W' = .ok (.tuple #[.agg #[.int .i64 ((findL z.L link).elim 0 OffT.level), .int .i64 ((findL z.L link).elim 0 OffT.till)], .bool (findL z.L link).isSome]) W') := HM.out.look HK.out
    have hlk := HLK.out w rfl
    obtain ⟨len, hl⟩ : ∃ len, z.L.length = len := ⟨_, rfl⟩
    have HL := Lib.hid hl
    rw [hl] at HN hlen
    by_cases h6 : 64 ≤ (restZ z.L link).length
    · have he : offerZ z link level false now = (3, z) := by unfold offerZ; rw [if_neg (by simpa using HA.out), if_neg hd, if_pos h6]
      have HE := Lib.hid he
      have hs : (findL z.L link).isSome = false := by cases hq : (findL z.L link).isSome with | false => rfl | true => rw [hq] at HN; simp at HN; omega
      have hlen : ∀ W' : World, W'.heap[mb]? = w.heap[mb]? → (Builtin.len_ #[44] 3 #[.map (some mb)]).run Try.prog W' = .ok (.int .i64 len) W' := fun W' hW => by rw [← HL.out]; exact HM.out.len 3 W' hW
      have h7 : 64 ≤ len := by rw [hs] at HN; simp at HN; omega
      rw [hs] at hlk
      generalize (findL z.L link).elim 0 OffT.level = f1 at *
      generalize (findL z.L link).elim 0 OffT.till = f2 at *
      have hlen2 := hlen (w.alloc (.cells #[.int .i64 f1, .int .i64 f2] 51)) (heap_alloc_old _ _ hml)
      clear he hd h6 HN hl hs hlen HLK
      go_enter Try.func12, Try.ntmps12
      go_wp2_with (first | (go_at_call 23; refine h1.mono ?_; rintro e w1 ⟨rfl, hww⟩; have hww := hww.symm; subst hww) | (go_at_call 22; refine h2.mono ?_; rintro e w1 ⟨rfl, hww⟩; have hww := hww.symm; subst hww) | (go_at_call 24; refine h3.mono ?_; rintro e w1 ⟨rfl, hww⟩; have hww := hww.symm; subst hww))
      go_ret
      rw [HE.out]
      exact ⟨rfl, HP.out.pend ((Below.refl _ _).alloc (Nat.le_refl _) _)⟩
    · have he : offerZ z link level false now = (0, { z with L := restZ z.L link ++ [⟨link, level, now + 4⟩] }) := by unfold offerZ; rw [if_neg (by simpa using HA.out), if_neg hd, if_neg h6]
      have HE := Lib.hid he
      have hlen : ∀ W' : World, W'.heap[mb]? = w.heap[mb]? → (Builtin.len_ #[44] 3 #[.map (some mb)]).run Try.prog W' = .ok (.int .i64 len) W' := fun W' hW => by rw [← HL.out]; exact HM.out.len 3 W' hW
      obtain ⟨is, his⟩ : ∃ b, (findL z.L link).isSome = b := ⟨_, rfl⟩
      have h7 : is = false → len < 64 := fun q => by rw [his, q] at HN; simp at HN; omega
      have h8 : len < maxLen := by unfold maxLen; omega
      have H8 : Hid (z.L.length < maxLen) := by unfold Hid; rw [hl]; exact h8
      rw [his] at hlk
      generalize (findL z.L link).elim 0 OffT.level = f1 at *
      generalize (findL z.L link).elim 0 OffT.till = f2 at *
      have hlen2 := hlen (w.alloc (.cells #[.int .i64 f1, .int .i64 f2] 51)) (heap_alloc_old _ _ hml)
      clear he hd h6 HN hl his hlen HLK h8
      cases is
      · have h7 := h7 rfl
        go_enter Try.func12, Try.ntmps12
        go_wp2_with (first | (go_at_call 23; refine h1.mono ?_; rintro e w1 ⟨rfl, hww⟩; have hww := hww.symm; subst hww) | (go_at_call 22; refine h2.mono ?_; rintro e w1 ⟨rfl, hww⟩; have hww := hww.symm; subst hww) | (go_at_call 24; refine h3.mono ?_; rintro e w1 ⟨rfl, hww⟩; have hww := hww.symm; subst hww) | (at_mapUpdate; refine wpList_put_M _ rfl _ _ _ rfl mb z.L rfl (HM.out.same (heap_alloc_old _ _ hml)) H8.out link HK.out rfl level (now + 4) rfl ?_; intro w2 hm2 ht2; have HF := Lib.hid (HP.out.turn ((Below.refl _ _).alloc (Nat.le_refl _) _) ht2 hm2); clear hm2 ht2))
        go_ret
        rw [HE.out]
        exact ⟨rfl, HF.out⟩
      · clear h7
        go_enter Try.func12, Try.ntmps12
        go_wp2_with (first | (go_at_call 23; refine h1.mono ?_; rintro e w1 ⟨rfl, hww⟩; have hww := hww.symm; subst hww) | (go_at_call 22; refine h2.mono ?_; rintro e w1 ⟨rfl, hww⟩; have hww := hww.symm; subst hww) | (go_at_call 24; refine h3.mono ?_; rintro e w1 ⟨rfl, hww⟩; have hww := hww.symm; subst hww) | (at_mapUpdate; refine wpList_put_M _ rfl _ _ _ rfl mb z.L rfl (HM.out.same (heap_alloc_old _ _ hml)) H8.out link HK.out rfl level (now + 4) rfl ?_; intro w2 hm2 ht2; have HF := Lib.hid (HP.out.turn ((Below.refl _ _).alloc (Nat.le_refl _) _) ht2 hm2); clear hm2 ht2))
        go_ret
        rw [HE.out]
        exact ⟨rfl, HF.out⟩
theorem poffer_any (h : ProgZ w base pb z) (hi : InvZ z) (link level : Int) (none : Bool) (now : Int) : Calls Try.prog 12 #[.pointer (some ⟨pb, 0, Option.none⟩), .int .i64 link, .int .i64 level, .bool none, .int .i64 now] w fun e w' => e = .returned (.int .i64 (offerZ z link level none now).1) ∧ PEnd w base pb (offerZ z link level none now).2 w' := by
  by_cases ha : offArg link level now
  · exact poffer_ok h hi link level none now ha
  · exact poffer_arg h link level none now ha
theorem quiet_find {z : ZtT} {link : Int} : quietZ z link = (ownZ z && (findL z.L link).isSome && decide ((findL z.L link).elim 0 OffT.level = z.taken)) := by
  unfold quietZ
  cases hf : findL z.L link with
  | none => simp
  | some o =>
    show (ownZ z && decide (o.level = z.taken)) = (ownZ z && true && decide (o.level = z.taken))
    rw [Bool.and_true]
set_option maxHeartbeats 3200000 in
set_option maxRecDepth 100000 in
theorem pquiet_any (h : ProgZ w base pb z) (link : Int) (hk : InI link) : Calls Try.prog 20 #[.pointer (some ⟨pb, 0, none⟩), .int .i64 link] w fun e w' => e = .returned (.bool (quietZ z link)) ∧ Below w.heap.size w w' := by
  have hw : ∀ W, Below w.heap.size w W → Calls Try.prog 26 #[.pointer (some ⟨pb, 0, none⟩)] W fun e w' => e = .returned (.bool (ownZ z)) ∧ w' = W := fun W hW => pown_any (h.below hW)
  obtain ⟨mb, h⟩ := h
  obtain ⟨c0, c1, c2, c3⟩ := h.cells
  have hmap := h.map
  have hlt := h.lt
  have hml := hmap.lt
  have hlk := hmap.look hk w rfl
  have HB : ∀ A : Obj, Below w.heap.size w (w.alloc A) := fun A => (Below.refl _ w).alloc (Nat.le_refl _) A
  rw [quiet_find]
  generalize (findL z.L link).elim 0 OffT.level = f1 at *
  generalize (findL z.L link).elim 0 OffT.till = f2 at *
  generalize (findL z.L link).isSome = is at *
  have HB2 := Lib.hid (HB (.cells #[.int .i64 f1, .int .i64 f2] 51))
  have HD : Hid (∀ n, Below w.heap.size w ((w.alloc (.cells #[.int .i64 f1, .int .i64 f2] 51)).drewN n)) := fun n => ⟨HB2.out.os, HB2.out.tape, HB2.out.output, HB2.out.size, HB2.out.block⟩
  have hw2 := fun n => hw _ (HD.out n)
  have d2 : (w.alloc (.cells #[.int .i64 f1, .int .i64 f2] 51)).cell? ⟨pb, 2, none⟩ = some (.int .i64 z.taken) := (HB2.out.cell (p := ⟨pb, 2, none⟩) hlt).trans c2
  clear h hmap HB hw hk
  generalize ownZ z = ow at *
  cases ow <;> cases is
  all_goals (go_enter Try.func20, Try.ntmps20)
  all_goals go_wp2
  all_goals go_quiet (exact Calls.quiet_of_same (hw2 _))
  all_goals go_wp2
  all_goals go_ret
  all_goals first
    | exact ⟨rfl, HD.out _⟩
    | exact ⟨by by_cases q : f1 = z.taken <;> simp [q], HD.out _⟩
end
end Go.Proofs.Ytfdoldefdkijoaa
