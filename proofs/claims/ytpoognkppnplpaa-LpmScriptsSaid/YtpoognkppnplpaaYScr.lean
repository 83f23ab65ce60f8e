/-
  LpmScripts: the law's walk.
-/
import Derived.Test.YtpoognkppnplpaaYLong
namespace Go.Proofs.Ytpoognkppnplpaa
set_option linter.unusedSimpArgs false
set_option linter.unusedVariables false
open Go.RowKit
section
variable {W : World} {base rb : Nat} {room : Int} {L : List Ent}
theorem rgetR (h : RefP W base rb room L) (n : Nat) (b : Int) (r1 : Int) (r2 : Bool) (hres : (match getL L (n, b) with | some m => (m, true) | none => ((0 : Int), false)) = (r1, r2)) :
    Calls Try.prog 12 #[.pointer (some ⟨rb, 0, none⟩), .agg #[.int .u32 n, .int .i64 b]] W fun e w' => e = .returned (.tuple #[.int .i64 r1, .bool r2]) ∧ Below W.heap.size W w' := by
  cases hg : getL L (n, b) with
  | none =>
    rw [hg] at hres
    injection hres with e1 e2
    subst e1 e2
    exact rget_not _ _ n b room L W h hg
  | some m =>
    rw [hg] at hres
    injection hres with e1 e2
    subst e1 e2
    exact rget_is _ _ n b room L W h hg
theorem rallR (h : RefP W base rb room L) {n : Nat} (hn : L.length = n) : Calls Try.prog 16 #[.pointer (some ⟨rb, 0, none⟩)] W fun e w' => (∃ A c, e = .returned (.slice A n c) ∧ OwnP w' W.heap.size (.slice A n c) (netsL L)) ∧ Below W.heap.size W w' :=
  (rall_any _ _ room L W h).mono fun e w' ⟨⟨v, he, ho⟩, hb⟩ => by
    obtain ⟨A, c, hv⟩ := ho.shapeN ((netsL_len L).trans hn)
    subst hv
    exact ⟨⟨A, c, he, ho⟩, hb⟩
end
theorem scripts_no (room : Int) (hroom : room < 1 ∨ 4096 < room) (a : Option Addr) (cap : Nat) (l : List Stp) (hl : l.length ≤ 9223372036854775807) (n : Nat) (b : Int) (w : World) :
    Calls Try.prog 3 #[.int .i64 room, .slice a l.length cap, .agg #[.int .u32 n, .int .i64 b]] w fun e w' => e = .returned (.bool true) ∧ Below w.heap.size w w' := by
  have haw := awake_any (w.alloc (.cells #[.int .u32 n, .int .i64 b] 25))
  have hmd := made_no room hroom a cap l hl
  have HB := Lib.hid ((Below.refl w.heap.size w).alloc (Nat.le_refl _) (.cells #[.int .u32 n, .int .i64 b] 25))
  generalize l.length = len at *
  clear hl hroom
  go_enter Try.func3, Try.ntmps3
  go_wp2_with (first
    | (go_at_call 9; refine haw.mono ?_; rintro e w1 ⟨rfl, hb1⟩; have HB1 := Lib.hid (HB.out.trans (hb1.mono HB.out.size)); clear hb1)
    | (go_at_call 10; refine (hmd _).mono ?_; rintro e w2 ⟨rfl, hb2⟩; have HB2 := Lib.hid (HB1.out.trans (hb2.mono HB1.out.size)); clear hb2))
  go_ret
  exact ⟨rfl, HB2.out⟩
set_option maxHeartbeats 4000000 in
set_option maxRecDepth 100000 in
theorem scripts_ok (room : Int) (h1 : 1 ≤ room) (h2 : room ≤ 4096) (a : Option Addr) (cap : Nat) (l : List Stp) (hl : l.length ≤ 9223372036854775807) (n : Nat) (hn : n < 4294967296) (b : Int) (w : World) (hr : RdS w.heap.size w a l) :
    Calls Try.prog 3 #[.int .i64 room, .slice a l.length cap, .agg #[.int .u32 n, .int .i64 b]] w fun e w' => e = .returned (.bool true) ∧ Below w.heap.size w w' := by
  have haw := awake_any (w.alloc (.cells #[.int .u32 n, .int .i64 b] 25))
  have hmd := fun W (hW : Below w.heap.size w W) => made_okP room h1 h2 a cap l hl W ((hr.below hW (Nat.le_refl _)).mono hW.size)
  have HB := Lib.hid ((Below.refl w.heap.size w).alloc (Nat.le_refl _) (.cells #[.int .u32 n, .int .i64 b] 25))
  have BX := Lib.hid (Bx.new w (.int .u32 n) (.int .i64 b))
  have hd := done_ok h1 h2 l (fun s hs => by obtain ⟨j, hj⟩ := List.getElem?_of_mem hs; exact (hr j s hj).1)
  generalize doneL room l = L at *
  obtain ⟨m, is, hres⟩ : ∃ m is, (match getL L (n, b) with | some m => (m, true) | none => ((0 : Int), false)) = (m, is) := ⟨_, _, rfl⟩
  obtain ⟨nl, hnl⟩ : ∃ nl, L.length = nl := ⟨_, rfl⟩
  have hnl5 : nl ≤ 4096 := by omega
  have HMD := Lib.hid hmd
  have HRES := Lib.hid hres
  have HNL := Lib.hid hnl
  generalize l.length = len at *
  clear hmd hres hnl hd hr hl h1 h2
  go_enter Try.func3, Try.ntmps3
  go_wp2_with (first
    | (go_at_call 9; refine haw.mono ?_; rintro e w1 ⟨rfl, hb1⟩; have BX1 := Lib.hid (BX.out.keep hb1 BX.out.lt); have HB1 := Lib.hid (HB.out.trans (hb1.mono HB.out.size)); clear hb1)
    | (go_at_call 10; ((with_reducible refine (HMD.out _ HB1.out).mono ?_); rintro e w2 ⟨rfl, hb2⟩); have st := (⟨hb2.tab, hb2.ref, HB1.out.trans (hb2.bel.mono HB1.out.size), HB1.out.size, BX1.out.keep hb2.bel BX1.out.lt⟩ : St w w1 room L L w.heap.size n b w2); have S2 := Lib.hid st; obtain ⟨c0, c1, _, _⟩ := st.box.cells; clear hb2 st)
    | (go_at_call 11; ((with_reducible refine (getT S2.out.tab n hn b _ _ HRES.out).mono ?_); rintro e w3 ⟨rfl, hb3⟩); have st := S2.out.below hb3; have S3 := Lib.hid st; obtain ⟨d0, d1, _, _⟩ := st.box.cells; clear hb3 st)
    | (go_at_call 12; ((with_reducible refine (rgetR S3.out.ref n b _ _ HRES.out).mono ?_); rintro e w4 ⟨rfl, hb4⟩); have S4 := Lib.hid (S3.out.below hb4); clear hb4))
  have S5 := Lib.hid (S4.out.below ((Below.refl _ _).drew))
  obtain ⟨v, hv⟩ := S5.out.ref
  obtain ⟨ad, cv, hvs⟩ := hv.shape
  rw [HNL.out] at hvs
  subst hvs
  obtain ⟨_, r1, _, _, _⟩ := hv.cells
  have HV := Lib.hid hv
  clear hv
  refine wp_region_held_drew (S := fun W => W.cell? ⟨w1.heap.size + 1, 1, none⟩ = some (.slice ad nl cv)) (by kernel_rfl) r1 (fun hS0 => ?_)
  refine takeD (i := 0) (d := 49) (v := ?vt0) rfl rfl (by kernel_rfl) (by kernel_rfl) (by kernel_rfl) (fun _ _ _ h => h) rfl ?ht0 (by assumption) ?rt0
  case ht0 =>
    intro w hSw
    go_simp
    try with_reducible rfl
  simp only [List.setIfInBounds_toArray, List.set_cons_zero, List.set_cons_succ]
  refine takeD (i := 1) (d := 50) (v := ?vt1) rfl rfl (by kernel_rfl) (by kernel_rfl) (by kernel_rfl) (fun _ _ _ h => h) rfl ?ht1 (by assumption) ?rt1
  case ht1 =>
    intro w hSw
    go_simp
    try with_reducible rfl
  simp only [List.setIfInBounds_toArray, List.set_cons_zero, List.set_cons_succ]
  refine takeD (i := 2) (d := 51) (v := ?vt2) rfl rfl (by kernel_rfl) (by kernel_rfl) (by kernel_rfl) (fun _ _ _ h => h) rfl ?ht2 (by assumption) ?rt2
  case ht2 =>
    intro w hSw
    go_simp
    try with_reducible rfl
  simp only [List.setIfInBounds_toArray, List.set_cons_zero, List.set_cons_succ]
  refine takeD (i := 3) (d := 52) (v := ?vt3) rfl rfl (by kernel_rfl) (by kernel_rfl) (by kernel_rfl) (fun _ _ _ h => h) rfl ?ht3 (by assumption) ?rt3
  case ht3 =>
    intro w hSw
    go_simp
    try with_reducible rfl
  simp only [List.setIfInBounds_toArray, List.set_cons_zero, List.set_cons_succ]
  refine takeG (i := 4) (d := 53) (v := ?vt4) rfl rfl (by kernel_rfl) (by kernel_rfl) (by kernel_rfl) (fun _ _ _ h => h) (by kernel_rfl) ?ht4 (by assumption) ?rt4
  case ht4 =>
    intro w hSw
    go_simp
    try with_reducible rfl
  simp only [List.setIfInBounds_toArray, List.set_cons_zero, List.set_cons_succ]
  refine takeG (i := 5) (d := 54) (v := ?vt5) rfl rfl (by kernel_rfl) (by kernel_rfl) (by kernel_rfl) (fun _ _ _ h => h) (by kernel_rfl) ?ht5 (by assumption) ?rt5
  case ht5 =>
    intro w hSw
    go_simp
    try with_reducible rfl
  simp only [List.setIfInBounds_toArray, List.set_cons_zero, List.set_cons_succ]
  refine takeG (i := 6) (d := 55) (v := ?vt6) rfl rfl (by kernel_rfl) (by kernel_rfl) (by kernel_rfl) (fun _ _ _ h => h) (by kernel_rfl) ?ht6 (by assumption) ?rt6
  case ht6 =>
    intro w hSw
    go_simp
    try with_reducible rfl
  simp only [List.setIfInBounds_toArray, List.set_cons_zero, List.set_cons_succ]
  refine takeD (i := 7) (d := 56) (v := ?vt7) rfl rfl (by kernel_rfl) (by kernel_rfl) (by kernel_rfl) (fun _ _ _ h => h) rfl ?ht7 (by assumption) ?rt7
  case ht7 =>
    intro w hSw
    go_simp
    try with_reducible rfl
  simp only [List.setIfInBounds_toArray, List.set_cons_zero, List.set_cons_succ]
  refine takeD (i := 8) (d := 57) (v := ?vt8) rfl rfl (by kernel_rfl) (by kernel_rfl) (by kernel_rfl) (fun _ _ _ h => h) rfl ?ht8 (by assumption) ?rt8
  case ht8 =>
    intro w hSw
    go_simp
    try with_reducible rfl
  simp only [List.setIfInBounds_toArray, List.set_cons_zero, List.set_cons_succ]
  refine takeG (i := 9) (d := 58) (v := ?vt9) rfl rfl (by kernel_rfl) (by kernel_rfl) (by kernel_rfl) (fun _ _ _ h => h) (by kernel_rfl) ?ht9 (by assumption) ?rt9
  case ht9 =>
    intro w hSw
    go_simp
    try with_reducible rfl
  simp only [List.setIfInBounds_toArray, List.set_cons_zero, List.set_cons_succ]
  refine takeG (i := 11) (d := 60) (v := ?vt11) rfl rfl (by kernel_rfl) (by kernel_rfl) (by kernel_rfl) (fun _ _ _ h => h) (by kernel_rfl) ?ht11 (by assumption) ?rt11
  case ht11 =>
    intro w hSw
    go_simp
    try with_reducible rfl
  simp only [List.setIfInBounds_toArray, List.set_cons_zero, List.set_cons_succ]
  refine takeG (i := 12) (d := 61) (v := ?vt12) rfl rfl (by kernel_rfl) (by kernel_rfl) (by kernel_rfl) (fun _ _ _ h => h) (by kernel_rfl) ?ht12 (by assumption) ?rt12
  case ht12 =>
    intro w hSw
    go_simp
    try with_reducible rfl
  simp only [List.setIfInBounds_toArray, List.set_cons_zero, List.set_cons_succ]
  refine takeG (i := 13) (d := 62) (v := ?vt13) rfl rfl (by kernel_rfl) (by kernel_rfl) (by kernel_rfl) (fun _ _ _ h => h) (by kernel_rfl) ?ht13 (by assumption) ?rt13
  case ht13 =>
    intro w hSw
    go_simp
    try with_reducible rfl
  simp only [List.setIfInBounds_toArray, List.set_cons_zero, List.set_cons_succ]
  refine takeG (i := 14) (d := 63) (v := ?vt14) rfl rfl (by kernel_rfl) (by kernel_rfl) (by kernel_rfl) (fun _ _ _ h => h) (by kernel_rfl) ?ht14 (by assumption) ?rt14
  case ht14 =>
    intro w hSw
    go_simp
    try with_reducible rfl
  simp only [List.setIfInBounds_toArray, List.set_cons_zero, List.set_cons_succ]
  refine takeG (i := 15) (d := 64) (v := ?vt15) rfl rfl (by kernel_rfl) (by kernel_rfl) (by kernel_rfl) (fun _ _ _ h => h) (by kernel_rfl) ?ht15 (by assumption) ?rt15
  case ht15 =>
    intro w hSw
    go_simp
    try with_reducible rfl
  simp only [List.setIfInBounds_toArray, List.set_cons_zero, List.set_cons_succ]
  refine wpAnyH_ready (rs := [10]) (by kernel_rfl) (by simp) ?_
  refine AllReadyH.cons rfl (fun K hK => ?_) AllReadyH.nil
  go_simp
  go_at_call 13
  with_reducible refine (lenT S5.out.tab HNL.out).mono ?_
  rintro e w5 ⟨rfl, rfl⟩
  go_simp
  refine hK.out _ _ r1 (fun hS1 => ?_)
  clear hK K
  refine takeG (i := 16) (d := 65) (v := ?vt16) rfl rfl (by kernel_rfl) (by kernel_rfl) (by kernel_rfl) (fun _ _ _ h => h) (by kernel_rfl) ?ht16 (by assumption) ?rt16
  case ht16 =>
    intro w hSw
    go_simp
    try with_reducible rfl
  simp only [List.setIfInBounds_toArray, List.set_cons_zero, List.set_cons_succ]
  refine takeD (i := 17) (d := 66) (v := ?vt17) rfl rfl (by kernel_rfl) (by kernel_rfl) (by kernel_rfl) (fun _ _ _ h => h) rfl ?ht17 (by assumption) ?rt17
  case ht17 =>
    intro w hSw
    go_simp
    try with_reducible rfl
  simp only [List.setIfInBounds_toArray, List.set_cons_zero, List.set_cons_succ]
  refine takeD (i := 18) (d := 67) (v := ?vt18) rfl rfl (by kernel_rfl) (by kernel_rfl) (by kernel_rfl) (fun _ _ _ h => h) rfl ?ht18 (by assumption) ?rt18
  case ht18 =>
    intro w hSw
    go_simp
    try with_reducible rfl
  simp only [List.setIfInBounds_toArray, List.set_cons_zero, List.set_cons_succ]
  refine takeG (i := 19) (d := 68) (v := ?vt19) rfl rfl (by kernel_rfl) (by kernel_rfl) (by kernel_rfl) (fun _ _ _ h => h) (by kernel_rfl) ?ht19 (by assumption) ?rt19
  case ht19 =>
    intro w hSw
    go_simp
    try with_reducible rfl
  simp only [List.setIfInBounds_toArray, List.set_cons_zero, List.set_cons_succ]
  refine takeG (i := 21) (d := 70) (v := ?vt21) rfl rfl (by kernel_rfl) (by kernel_rfl) (by kernel_rfl) (fun _ _ _ h => h) (by kernel_rfl) ?ht21 (by assumption) ?rt21
  case ht21 =>
    intro w hSw
    go_simp
    try with_reducible rfl
  simp only [List.setIfInBounds_toArray, List.set_cons_zero, List.set_cons_succ]
  refine wpAnyH_ready (rs := [20]) (by kernel_rfl) (by simp) ?_
  refine AllReadyH.cons rfl (fun K hK => ?_) AllReadyH.nil
  go_simp
  go_at_call 15
  with_reducible refine (allT S5.out.tab HNL.out).mono ?_
  rintro e w6 ⟨⟨A, c, rfl, ho⟩, hb6⟩
  have S6 := Lib.hid (S5.out.below hb6)
  have hv6 := HV.out.below hb6
  obtain ⟨_, r2, _, _, _⟩ := hv6.cells
  have O6 := Lib.hid ho
  clear hb6 ho hv6
  go_simp
  refine hK.out _ _ r2 (fun hS2 => ?_)
  clear hK K
  refine wpAnyH_ready (rs := [22]) (by kernel_rfl) (by simp) ?_
  refine AllReadyH.cons rfl (fun K hK => ?_) AllReadyH.nil
  go_simp
  go_at_call 16
  with_reducible refine (rallR S6.out.ref HNL.out).mono ?_
  rintro e w7 ⟨⟨A2, c2, rfl, ho⟩, hb7⟩
  have S7 := Lib.hid (S6.out.below hb7)
  have O7 := Lib.hid ho
  have P7 := Lib.hid (O6.out.below hb7 (Nat.le_refl _))
  have r3 := keepC hb7 (World.block_lt_of_cell? _ _ r2) r2
  clear hb7 ho
  go_simp
  refine hK.out _ _ r3 (fun hS3 => ?_)
  clear hK K
  refine wpAnyH_ready (rs := [23]) (by kernel_rfl) (by simp) ?_
  refine AllReadyH.cons rfl (fun K hK => ?_) AllReadyH.nil
  go_simp
  go_at_call 14
  with_reducible refine (sameT P7.out O7.out ((netsL_len L).trans HNL.out) (by omega)).mono ?_
  rintro e w8 ⟨rfl, hb8⟩
  have S8 := Lib.hid (S7.out.below hb8)
  have r4 := keepC hb8 (World.block_lt_of_cell? _ _ r3) r3
  clear hb8
  go_simp
  refine hK.out _ _ r4 (fun hS4 => ?_)
  clear hK K
  refine takeD (i := 24) (d := 73) (v := ?vt24) rfl rfl (by kernel_rfl) (by kernel_rfl) (by kernel_rfl) (fun _ _ _ h => h) rfl ?ht24 (by assumption) ?rt24
  case ht24 =>
    intro w hSw
    go_simp
    try with_reducible rfl
  simp only [List.setIfInBounds_toArray, List.set_cons_zero, List.set_cons_succ]
  refine takeD (i := 25) (d := 6) (v := ?vt25) rfl rfl (by kernel_rfl) (by kernel_rfl) (by kernel_rfl) (fun _ _ _ h => h) rfl ?ht25 (by assumption) ?rt25
  case ht25 =>
    intro w hSw
    go_simp
    try with_reducible rfl
  simp only [List.setIfInBounds_toArray, List.set_cons_zero, List.set_cons_succ]
  refine wpAnyH_done (by kernel_rfl) ?_ _
  clear hS0 hS1 hS2 hS3 hS4
  go_wp2
  go_ret
  exact ⟨rfl, S8.out.bel⟩
theorem scripts_walk (room : Int) (a : Option Addr) (cap : Nat) (l : List Stp) (hl : l.length ≤ 9223372036854775807) (n : Nat) (hn : n < 4294967296) (b : Int) (w : World) (hr : RdS w.heap.size w a l) :
    Calls Try.prog 3 #[.int .i64 room, .slice a l.length cap, .agg #[.int .u32 n, .int .i64 b]] w fun e w' => e = .returned (.bool true) ∧ Below w.heap.size w w' := by
  by_cases h1 : 1 ≤ room
  · by_cases h2 : room ≤ 4096
    · exact scripts_ok room h1 h2 a cap l hl n hn b w hr
    · exact scripts_no room (.inr (by omega)) a cap l hl n b w
  · exact scripts_no room (.inl (by omega)) a cap l hl n b w
end Go.Proofs.Ytpoognkppnplpaa
