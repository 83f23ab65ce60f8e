/-
  LpmLongest: the law's walk.
-/
import Derived.Test.YtpoognkppnplpaaYAllL
namespace Go.Proofs.Ytpoognkppnplpaa
set_option linter.unusedSimpArgs false
set_option linter.unusedVariables false
open Go.RowKit
theorem takeNo {P : Program} {ops : Array Oper} {Q : Exit → Act → World → Prop} {md : Region.Mode} {S : World → Prop} {i d : Nat} {oi : Oper} {fuel : Nat} {listed : Array Bool} {ts : Array Value} {df : List Deferred} {w : World} (hi : ops[i]? = some oi) (hd : oi.dst = some d)
    (hs : Region.noSelect ops = true) (hf : Region.free md ops listed i = true) (hr : (Region.ready md ops listed).contains i = true)
    (hQ : ∀ c a w, Q (.panic c) (a.put oi.dst undef) w → Q (.panic c) a w) (hg : Region.wanted oi (yielded ops ts) = false) (hS : S w)
    (h : wpAnyH P md ops Q S fuel (listed.setIfInBounds i true) { tmps := ts.setIfInBounds d undef, defers := df } w) : wpAnyH P md ops Q S (fuel + 1) listed { tmps := ts, defers := df } w := by
  refine wpAnyH_take hi hs hf hr hQ (.inr ⟨hg, rfl⟩) hS ?_
  unfold Act.put
  rw [hd]
  exact h
theorem takeG {P : Program} {ops : Array Oper} {Q : Exit → Act → World → Prop} {md : Region.Mode} {S : World → Prop} {i d : Nat} {oi : Oper} {v : Value} {fuel : Nat} {listed : Array Bool} {ts : Array Value} {df : List Deferred} {w : World} (hi : ops[i]? = some oi) (hd : oi.dst = some d)
    (hs : Region.noSelect ops = true) (hf : Region.free md ops listed i = true) (hr : (Region.ready md ops listed).contains i = true)
    (hQ : ∀ c a w, Q (.panic c) (a.put oi.dst v) w → Q (.panic c) a w) (hg : Region.wanted oi (yielded ops ts) = true) (hy : ∀ w, S w → (execOp (Act.eval { tmps := ts, defers := df }) oi).run P w = .ok (.value v) w) (hS : S w)
    (h : wpAnyH P md ops Q S fuel (listed.setIfInBounds i true) { tmps := ts.setIfInBounds d v, defers := df } w) : wpAnyH P md ops Q S (fuel + 1) listed { tmps := ts, defers := df } w := by
  refine wpAnyH_take hi hs hf hr hQ (.inl ⟨hg, hy⟩) hS ?_
  unfold Act.put
  rw [hd]
  exact h
theorem longest_no (room : Int) (hroom : room < 1 ∨ 4096 < room) (a : Option Addr) (cap : Nat) (l : List Stp) (hl : l.length ≤ 9223372036854775807) (k : Nat) (w : World) :
    Calls Try.prog 5 #[.int .i64 room, .slice a l.length cap, .int .u32 k] w fun e w' => e = .returned (.bool true) ∧ Below w.heap.size w w' := by
  have haw := awake_any w
  have hmd := made_no room hroom a cap l hl
  generalize l.length = len at *
  clear hl hroom
  go_enter Try.func5, Try.ntmps5
  go_wp2_with (first
    | (go_at_call 9; refine haw.mono ?_; rintro e w1 ⟨rfl, hb1⟩; have HB1 := Lib.hid hb1; clear hb1)
    | (go_at_call 10; refine (hmd _).mono ?_; rintro e w2 ⟨rfl, hb2⟩; have HB2 := Lib.hid (HB1.out.trans (hb2.mono HB1.out.size)); clear hb2))
  go_ret
  exact ⟨rfl, HB2.out⟩
/-- What is found is known, has the address, and no longer net does. -/
theorem longest_facts {L : List Ent} (hg : Good L) (k : Nat) : ∃ (x : Ent) (is : Bool), (lastE (onL k L), hasE (onL k L)) = (x, is) ∧ x.1.1 < 4294967296 ∧ (is = true → getL L x.1 = some x.2 ∧ inP x.1 k = true) ∧ (∀ (j : Nat) (y : Ent), L[j]? = some y → inP y.1 k = true → is = true ∧ y.1.2 ≤ x.1.2) := by
  refine ⟨_, _, rfl, ?_⟩
  by_cases hon : onL k L = []
  · have e1 : lastE (onL k L) = ((0, 0), 0) := by rw [hon]; rfl
    have e2 : hasE (onL k L) = false := by rw [hon]; rfl
    rw [e1, e2]
    refine ⟨by decide, fun h => (by cases h), fun j y hj hi => ?_⟩
    have : y ∈ onL k L := List.mem_filter.2 ⟨List.mem_of_getElem? hj, hi⟩
    rw [hon] at this
    cases this
  · have hl : lastE (onL k L) = (onL k L).getLast hon := by unfold lastE; rw [List.getLast?_eq_some_getLast hon]; rfl
    have hmem : lastE (onL k L) ∈ onL k L := by rw [hl]; exact List.getLast_mem hon
    have hm := List.mem_filter.1 hmem
    have he : hasE (onL k L) = true := by
      unfold hasE
      cases h : onL k L with
      | nil => exact absurd h hon
      | cons _ _ => rfl
    rw [he]
    refine ⟨(hg.right _ hm.1).2, fun _ => ⟨(getL_mem hg.rises).2 hm.1, hm.2⟩, fun j y hj hi => ⟨rfl, ?_⟩⟩
    have hy : y ∈ onL k L := List.mem_filter.2 ⟨List.mem_of_getElem? hj, hi⟩
    have hpw : (onL k L).Pairwise fun x y => lessP x.1 y.1 := hg.rises.filter _
    obtain ⟨i, hi1, hi2⟩ := List.getElem_of_mem hy
    rw [hl] at hm ⊢
    rw [List.getLast_eq_getElem] at hm ⊢
    by_cases hii : i = (onL k L).length - 1
    · subst hii
      rw [hi2]
      omega
    · have hless := List.pairwise_iff_getElem.1 hpw i ((onL k L).length - 1) hi1 (by omega) (by omega)
      rw [hi2] at hless
      have := longer (hg.right _ (List.mem_of_getElem? hj)).1 (hg.right _ hm.1).1 hi hm.2 hless
      omega
set_option maxHeartbeats 4000000 in
set_option maxRecDepth 100000 in
theorem longest_ok (room : Int) (h1 : 1 ≤ room) (h2 : room ≤ 4096) (a : Option Addr) (cap : Nat) (l : List Stp) (hl : l.length ≤ 9223372036854775807) (k : Nat) (hk : k < 4294967296) (w : World) (hr : RdS w.heap.size w a l) :
    Calls Try.prog 5 #[.int .i64 room, .slice a l.length cap, .int .u32 k] w fun e w' => e = .returned (.bool true) ∧ Below w.heap.size w w' := by
  have haw := awake_any w
  have hmd := fun W (hW : Below w.heap.size w W) => made_okP room h1 h2 a cap l hl W ((hr.below hW (Nat.le_refl _)).mono hW.size)
  have hd := done_ok h1 h2 l (fun s hs => by obtain ⟨j, hj⟩ := List.getElem?_of_mem hs; exact (hr j s hj).1)
  generalize doneL room l = L at *
  obtain ⟨x, is, hres, hxn, hknown, hlong⟩ := longest_facts hd.1 k
  obtain ⟨⟨xn, xb⟩, xv⟩ := x
  simp only at hxn hknown hlong
  obtain ⟨r1, r2, hget⟩ : ∃ r1 r2, (match getL L (xn, xb) with | some m => (m, true) | none => ((0 : Int), false)) = (r1, r2) := ⟨_, _, rfl⟩
  have hkn2 : is = true → r1 = xv ∧ r2 = true ∧ inP (xn, xb) k = true := fun h => by
    obtain ⟨e1, e2⟩ := hknown h
    rw [e1] at hget
    injection hget with e3 e4
    exact ⟨e3.symm, e4.symm, e2⟩
  have hin := in_any xn hxn xb k hk
  obtain ⟨nl, hnl⟩ : ∃ nl, L.length = nl := ⟨_, rfl⟩
  have hnl5 : nl ≤ 4096 := by omega
  have HMD := Lib.hid hmd
  have HRES := Lib.hid hres
  have HGET := Lib.hid hget
  have HKN := Lib.hid hkn2
  have HLONG := Lib.hid hlong
  have HNL := Lib.hid hnl
  have HGOOD := Lib.hid hd.1
  have HIN := Lib.hid hin
  generalize l.length = len at *
  clear hmd hres hget hkn2 hlong hknown hnl hd hin hr hl h1 h2
  go_enter Try.func5, Try.ntmps5
  go_wp2_with (first
    | (go_at_call 9; refine haw.mono ?_; rintro e w1 ⟨rfl, hb1⟩; have HB1 := Lib.hid hb1; clear hb1)
    | (go_at_call 10; ((with_reducible refine (HMD.out _ HB1.out).mono ?_); rintro e w2 ⟨rfl, hb2⟩); have BO := Lib.hid hb2; clear hb2)
    | (go_at_call 17; ((with_reducible refine (findT BO.out.tab k hk _ _ HRES.out).mono ?_); rintro e w3 ⟨rfl, hb3⟩); have bo3 := (BO.out.below hb3).below ((Below.refl w3.heap.size w3).alloc (Nat.le_refl _) (.cells #[.int .u32 xn, .int .i64 xb] 25)); have st := (⟨bo3.tab, bo3.ref, HB1.out.trans (bo3.bel.mono HB1.out.size), HB1.out.size, Bx.new w3 _ _⟩ : St w w1 room L L w3.heap.size xn xb _); have S3 := Lib.hid st; clear hb3 bo3 st)
    | (go_at_call 15; ((with_reducible refine (allT S3.out.tab HNL.out).mono ?_); rintro e w4 ⟨⟨A, c, rfl, ho⟩, hb4⟩); have S4 := Lib.hid (S3.out.below hb4); have O4 := Lib.hid ho; clear hb4 ho))
  go_loopw [15] (fun i wr => ∃ j : Nat, i = .int .i64 j ∧ Hid (j ≤ nl) ∧ Hid (Below w4.heap.size w4 wr)) (fun i _ => nl - (intOf i).toNat)
  case atStart => exact ⟨0, rfl, Nat.zero_le _, Below.refl _ _⟩
  case round =>
    obtain ⟨j, rfl, HJ, HBL⟩ := hrel
    have hj := HJ.out
    by_cases hlt : j < nl
    · obtain ⟨y, hy⟩ : ∃ y, L[j]? = some y := ⟨_, List.getElem?_eq_getElem (by have := HNL.out; omega)⟩
      have hyn := (HGOOD.out.right y (List.mem_of_getElem? hy)).2
      have hny : (netsL L)[j]? = some y.1 := by unfold netsL; rw [List.getElem?_map, hy]; rfl
      have hlg := HLONG.out j y hy
      obtain ⟨W1, hW1⟩ : ∃ W1, wr.drew = W1 := ⟨_, rfl⟩
      have hb1 : Below w4.heap.size w4 W1 := by rw [← hW1]; exact HBL.out.drew
      have O5 := O4.out.below hb1 (Nat.le_refl _)
      have S5 := S4.out.below hb1
      obtain ⟨g, hA2⟩ : ∃ g, A = some ⟨g, 0, none⟩ := by
        rcases O5.form with ⟨e, _⟩ | ⟨g, cap, e, _⟩
        · injection e with _ e2 _; omega
        · injection e with e1 _ _; exact ⟨g, e1⟩
      subst hA2
      obtain ⟨y0, y1⟩ := O5.cell hny
      have hcy := in_any y.1.1 hyn y.1.2 k hk W1
      have hj0 : 0 < nl := by omega
      have HW := Lib.hid hW1
      have HB5 := Lib.hid hb1
      have HO5 := Lib.hid O5
      have HS5 := Lib.hid S5
      have HNY := Lib.hid hny
      have HLG := Lib.hid hlg
      clear hy hyn hny hb1 hW1 O5 S5 hlg
      cases hi : inP (y.1.1, y.1.2) k with
      | false =>
        rw [hi] at hcy
        clear hi
        have hw := HW.out
        clear HW
        subst hw
        go_wp2
        obtain ⟨y0, y1⟩ := HO5.out.cell HNY.out
        obtain ⟨c0, c1, _, _⟩ := HS5.out.box.cells
        refine wp_region_held_drew (S := fun W => W.cell? ⟨g, j * 2, none⟩ = some (.int .u32 y.1.1) ∧ W.cell? ⟨g, j * 2 + 1, none⟩ = some (.int .i64 y.1.2) ∧ W.cell? ⟨w3.heap.size, 1, none⟩ = some (.int .i64 xb)) (by kernel_rfl) ⟨y0, y1, c1⟩ (fun hS0 => ?_)
        refine takeD (i := 0) (d := 55) (v := ?vt0) rfl rfl (by kernel_rfl) (by kernel_rfl) (by kernel_rfl) (fun _ _ _ h => h) rfl ?ht0 (by assumption) ?rt0
        case ht0 =>
          intro w hSw
          obtain ⟨s0, s1, s2⟩ := hSw
          go_simp
          try with_reducible rfl
        simp only [List.setIfInBounds_toArray, List.set_cons_zero, List.set_cons_succ]
        refine takeD (i := 1) (d := 56) (v := ?vt1) rfl rfl (by kernel_rfl) (by kernel_rfl) (by kernel_rfl) (fun _ _ _ h => h) rfl ?ht1 (by assumption) ?rt1
        case ht1 =>
          intro w hSw
          obtain ⟨s0, s1, s2⟩ := hSw
          go_simp
          try with_reducible rfl
        simp only [List.setIfInBounds_toArray, List.set_cons_zero, List.set_cons_succ]
        refine takeD (i := 2) (d := 57) (v := ?vt2) rfl rfl (by kernel_rfl) (by kernel_rfl) (by kernel_rfl) (fun _ _ _ h => h) rfl ?ht2 (by assumption) ?rt2
        case ht2 =>
          intro w hSw
          obtain ⟨s0, s1, s2⟩ := hSw
          go_simp
          try with_reducible rfl
        simp only [List.setIfInBounds_toArray, List.set_cons_zero, List.set_cons_succ]
        refine takeD (i := 3) (d := 58) (v := ?vt3) rfl rfl (by kernel_rfl) (by kernel_rfl) (by kernel_rfl) (fun _ _ _ h => h) rfl ?ht3 (by assumption) ?rt3
        case ht3 =>
          intro w hSw
          obtain ⟨s0, s1, s2⟩ := hSw
          go_simp
          try with_reducible rfl
        simp only [List.setIfInBounds_toArray, List.set_cons_zero, List.set_cons_succ]
        refine takeD (i := 4) (d := 59) (v := ?vt4) rfl rfl (by kernel_rfl) (by kernel_rfl) (by kernel_rfl) (fun _ _ _ h => h) rfl ?ht4 (by assumption) ?rt4
        case ht4 =>
          intro w hSw
          obtain ⟨s0, s1, s2⟩ := hSw
          go_simp
          try with_reducible rfl
        simp only [List.setIfInBounds_toArray, List.set_cons_zero, List.set_cons_succ]
        refine wpAnyH_ready (rs := [5]) (by kernel_rfl) (by simp) ?_
        refine AllReadyH.cons rfl (fun K hK => ?_) AllReadyH.nil
        go_simp
        go_at_call 19
        with_reducible refine hcy.mono ?_
        rintro e w6 ⟨rfl, hb6⟩
        obtain ⟨z0, z1⟩ := (HO5.out.below hb6 (Nat.le_refl _)).cell HNY.out
        have hs6 := HS5.out.below hb6
        obtain ⟨f0, f1, _, _⟩ := hs6.box.cells
        have HB6 := Lib.hid (HB5.out.trans (hb6.mono HB5.out.size))
        clear hb6 hs6
        go_simp
        refine hK.out _ _ ⟨z0, z1, f1⟩ (fun hS1 => ?_)
        clear hK K
        refine takeD (i := 6) (d := 61) (v := ?vt6) rfl rfl (by kernel_rfl) (by kernel_rfl) (by kernel_rfl) (fun _ _ _ h => h) rfl ?ht6 (by assumption) ?rt6
        case ht6 =>
          intro w hSw
          obtain ⟨s0, s1, s2⟩ := hSw
          go_simp
          try with_reducible rfl
        simp only [List.setIfInBounds_toArray, List.set_cons_zero, List.set_cons_succ]
        refine takeNo (i := 7) (d := 62) rfl rfl (by kernel_rfl) (by kernel_rfl) (by kernel_rfl) (fun _ _ _ h => h) (by kernel_rfl) (by assumption) ?_
        simp only [List.setIfInBounds_toArray, List.set_cons_zero, List.set_cons_succ]
        refine takeNo (i := 8) (d := 63) rfl rfl (by kernel_rfl) (by kernel_rfl) (by kernel_rfl) (fun _ _ _ h => h) (by kernel_rfl) (by assumption) ?_
        simp only [List.setIfInBounds_toArray, List.set_cons_zero, List.set_cons_succ]
        refine takeNo (i := 9) (d := 64) rfl rfl (by kernel_rfl) (by kernel_rfl) (by kernel_rfl) (fun _ _ _ h => h) (by kernel_rfl) (by assumption) ?_
        simp only [List.setIfInBounds_toArray, List.set_cons_zero, List.set_cons_succ]
        refine takeNo (i := 10) (d := 65) rfl rfl (by kernel_rfl) (by kernel_rfl) (by kernel_rfl) (fun _ _ _ h => h) (by kernel_rfl) (by assumption) ?_
        simp only [List.setIfInBounds_toArray, List.set_cons_zero, List.set_cons_succ]
        refine takeNo (i := 11) (d := 66) rfl rfl (by kernel_rfl) (by kernel_rfl) (by kernel_rfl) (fun _ _ _ h => h) (by kernel_rfl) (by assumption) ?_
        simp only [List.setIfInBounds_toArray, List.set_cons_zero, List.set_cons_succ]
        refine takeNo (i := 12) (d := 67) rfl rfl (by kernel_rfl) (by kernel_rfl) (by kernel_rfl) (fun _ _ _ h => h) (by kernel_rfl) (by assumption) ?_
        simp only [List.setIfInBounds_toArray, List.set_cons_zero, List.set_cons_succ]
        refine takeNo (i := 13) (d := 68) rfl rfl (by kernel_rfl) (by kernel_rfl) (by kernel_rfl) (fun _ _ _ h => h) (by kernel_rfl) (by assumption) ?_
        simp only [List.setIfInBounds_toArray, List.set_cons_zero, List.set_cons_succ]
        refine takeNo (i := 14) (d := 69) rfl rfl (by kernel_rfl) (by kernel_rfl) (by kernel_rfl) (fun _ _ _ h => h) (by kernel_rfl) (by assumption) ?_
        simp only [List.setIfInBounds_toArray, List.set_cons_zero, List.set_cons_succ]
        refine takeNo (i := 15) (d := 70) rfl rfl (by kernel_rfl) (by kernel_rfl) (by kernel_rfl) (fun _ _ _ h => h) (by kernel_rfl) (by assumption) ?_
        simp only [List.setIfInBounds_toArray, List.set_cons_zero, List.set_cons_succ]
        refine takeNo (i := 16) (d := 71) rfl rfl (by kernel_rfl) (by kernel_rfl) (by kernel_rfl) (fun _ _ _ h => h) (by kernel_rfl) (by assumption) ?_
        simp only [List.setIfInBounds_toArray, List.set_cons_zero, List.set_cons_succ]
        refine takeNo (i := 17) (d := 72) rfl rfl (by kernel_rfl) (by kernel_rfl) (by kernel_rfl) (fun _ _ _ h => h) (by kernel_rfl) (by assumption) ?_
        simp only [List.setIfInBounds_toArray, List.set_cons_zero, List.set_cons_succ]
        refine takeNo (i := 18) (d := 73) rfl rfl (by kernel_rfl) (by kernel_rfl) (by kernel_rfl) (fun _ _ _ h => h) (by kernel_rfl) (by assumption) ?_
        simp only [List.setIfInBounds_toArray, List.set_cons_zero, List.set_cons_succ]
        refine takeD (i := 19) (d := 74) (v := ?vt19) rfl rfl (by kernel_rfl) (by kernel_rfl) (by kernel_rfl) (fun _ _ _ h => h) rfl ?ht19 (by assumption) ?rt19
        case ht19 =>
          intro w hSw
          obtain ⟨s0, s1, s2⟩ := hSw
          go_simp
          try with_reducible rfl
        simp only [List.setIfInBounds_toArray, List.set_cons_zero, List.set_cons_succ]
        refine wpAnyH_done (by kernel_rfl) ?_ _
        go_wp2
        go_roundw
        case rel => exact ⟨j + 1, by go_num, by unfold Hid; omega, HB6.out⟩
        case measure => simp [intOf]; omega
      | true =>
        rw [hi] at hcy
        obtain ⟨his, hle⟩ := HLG.out hi
        have hdd : decide (xb < y.1.2) = false := decide_eq_false (by omega)
        subst his
        clear hi hle
        have hw := HW.out
        clear HW
        subst hw
        go_wp2
        obtain ⟨y0, y1⟩ := HO5.out.cell HNY.out
        obtain ⟨c0, c1, _, _⟩ := HS5.out.box.cells
        first | (go_region_held (fun W => W.cell? ⟨g, j * 2, none⟩ = some (.int .u32 y.1.1) ∧ W.cell? ⟨g, j * 2 + 1, none⟩ = some (.int .i64 y.1.2) ∧ W.cell? ⟨w3.heap.size, 1, none⟩ = some (.int .i64 xb)) (first | exact ⟨y0, y1, c1⟩ | exact ⟨by assumption, by assumption, by assumption⟩)
          (first
            | (go_at_call 19; ((with_reducible refine hcy.mono ?_); rintro e w6 ⟨rfl, hb6⟩); obtain ⟨z0, z1⟩ := (HO5.out.below hb6 (Nat.le_refl _)).cell HNY.out; have hs6 := HS5.out.below hb6; obtain ⟨f0, f1, _, _⟩ := hs6.box.cells; have HB6 := Lib.hid (HB5.out.trans (hb6.mono HB5.out.size)); clear hb6 hs6))) | fail
        go_wp2
        go_roundw
        case rel => exact ⟨j + 1, by go_num, by unfold Hid; omega, HB6.out⟩
        case measure => simp [intOf]; omega
    · have hs := S4.out.below HBL.out
      obtain ⟨c0, c1, _, _⟩ := hs.box.cells
      have S5 := Lib.hid hs
      clear hs
      cases is with
      | false =>
        go_wp2_with (first
          | (go_at_call 11; ((with_reducible refine (getT S5.out.tab xn hxn xb _ _ HGET.out).mono ?_); rintro e w8 ⟨rfl, hb8⟩); have S8 := Lib.hid (S5.out.below hb8); clear hb8))
        go_ret
        exact ⟨rfl, S8.out.bel⟩
      | true =>
        obtain ⟨rfl, rfl, hix⟩ := HKN.out rfl
        have hin := HIN.out
        rw [hix] at hin
        clear hix
        go_wp2_with (first
          | (go_at_call 11; ((with_reducible refine (getT S5.out.tab xn hxn xb _ _ HGET.out).mono ?_); rintro e w8 ⟨rfl, hb8⟩); have st := S5.out.below hb8; obtain ⟨f0, f1, _, _⟩ := st.box.cells; have S8 := Lib.hid st; clear hb8 st)
          | (go_at_call 19; ((with_reducible refine (hin _).mono ?_); rintro e w9 ⟨rfl, hb9⟩); have S9 := Lib.hid (S8.out.below hb9); clear hb9))
        go_ret
        exact ⟨rfl, S9.out.bel⟩
theorem longest_walk (room : Int) (a : Option Addr) (cap : Nat) (l : List Stp) (hl : l.length ≤ 9223372036854775807) (k : Nat) (hk : k < 4294967296) (w : World) (hr : RdS w.heap.size w a l) :
    Calls Try.prog 5 #[.int .i64 room, .slice a l.length cap, .int .u32 k] w fun e w' => e = .returned (.bool true) ∧ Below w.heap.size w w' := by
  by_cases h1 : 1 ≤ room
  · by_cases h2 : room ≤ 4096
    · exact longest_ok room h1 h2 a cap l hl k hk w hr
    · exact longest_no room (.inr (by omega)) a cap l hl k w
  · exact longest_no room (.inl (by omega)) a cap l hl k w
end Go.Proofs.Ytpoognkppnplpaa
