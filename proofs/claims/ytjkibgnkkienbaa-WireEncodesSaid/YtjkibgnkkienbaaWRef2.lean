/-
  THE DOCUMENT's RightTie.
-/
import Derived.Test.YtjkibgnkkienbaaWRef1
namespace Go.Proofs.Ytjkibgnkkienbaa
open Go.RowKit Go.Shelf
set_option linter.unusedVariables false

theorem all_next {E : Type} {f : E → Bool} {l : List E} {k : Nat} {x : E} (h : (l.take k).all f = true) (hx : l[k]? = some x) (hf : f x = true) : (l.take (k + 1)).all f = true := by
  rw [List.take_add_one, hx]
  simp only [List.all_append, h, Option.toList, List.all_cons, hf, List.all_nil, Bool.and_self]
theorem all_not {E : Type} {f : E → Bool} {l : List E} {k : Nat} {x : E} (hx : l[k]? = some x) (hf : f x = false) : l.all f = false := by
  rw [Bool.eq_false_iff]
  intro h
  have := List.all_eq_true.1 h x (List.mem_of_getElem? hx)
  rw [hf] at this
  cases this
theorem tie_bad1 {x : TieT} (h : headR x.head = false) : tieR x = false := by simp [tieR, h]
theorem tie_bad2 {x : TieT} (h : 64 < x.edges.length) : tieR x = false := by
  have : decide (x.edges.length ≤ if x.head.id.kind = 1 then 64 else 0) = false := decide_eq_false (by split <;> omega)
  simp only [tieR, this, Bool.and_false, Bool.false_and]
theorem tie_bad3 {x : TieT} (h : 64 < x.reaches.length) : tieR x = false := by
  have : decide (x.reaches.length ≤ if x.head.id.kind = 1 then 0 else 64) = false := decide_eq_false (by split <;> omega)
  simp only [tieR, this, Bool.and_false]
theorem tie_bad4 {x : TieT} (h : x.edges.all edgeR = false) : tieR x = false := by simp only [tieR, h, Bool.and_false, Bool.false_and]
theorem tie_bad5 {x : TieT} (h : x.reaches.all reachR = false) : tieR x = false := by simp only [tieR, h, Bool.and_false, Bool.false_and]
theorem int_beq0 (n : Nat) : ((n : Int) == 0) = decide (n = 0) := by
  rw [Bool.eq_iff_iff]
  simp
theorem reach_yes {u : ReachT} (h : 0 ≤ u.net ∧ u.net < 4294967296) (h1 : (rgB 0 32 u.bits && shlB u.net u.bits) = true) (h2 : rgB 0 1048576 u.metric = true) : reachR u = true := by
  have h3 : rgB 0 4294967295 u.net = true := by unfold rgB; exact decide_eq_true (by omega)
  rw [Bool.and_eq_true] at h1
  simp [reachR, h1.1, h1.2, h2, h3]
theorem reach_no {u : ReachT} (h1 : (rgB 0 32 u.bits && shlB u.net u.bits) = false) : reachR u = false := by
  unfold reachR
  rw [Bool.and_assoc (rgB 0 4294967295 u.net), h1]
  simp
theorem tie_end {x : TieT} (h1 : headR x.head = true) (h2 : x.edges.length ≤ 64) (h3 : x.reaches.length ≤ 64) (h4 : x.edges.all edgeR = true) (h5 : x.reaches.all reachR = true) :
    tieR x = if x.head.id.kind = 1 then rgB 0 24 x.level && decide (x.reaches.length = 0) else decide (x.level = 0) && !x.over && decide (x.edges.length = 0) := by
  simp only [tieR, h1, h4, h5, Bool.true_and]
  by_cases hk : x.head.id.kind = 1
  · simp only [if_pos hk, bit_range, Bool.true_and]
    rw [show decide (x.edges.length ≤ 64) = true from decide_eq_true h2, Bool.true_and]
    congr 1
    rw [Bool.eq_iff_iff]
    simp
  · simp only [if_neg hk]
    rw [show decide (x.reaches.length ≤ 64) = true from decide_eq_true h3]
    have e1 : rgB 0 0 x.level = decide (x.level = 0) := by unfold rgB; rw [Bool.eq_iff_iff]; simp; omega
    have e2 : rgB 0 0 (bitI x.over) = !x.over := by cases x.over <;> rfl
    rw [e1, e2, Bool.and_true, ← Bool.and_assoc]
    congr 1
    rw [Bool.eq_iff_iff]
    simp

set_option maxRecDepth 100000 in
set_option maxHeartbeats 16000000 in
theorem rRightTie_any (x : TieT) (ae ar : Option Addr) (ce cr : Nat) (hx1 : x.edges.length ≤ 140737488351232) (hx2 : x.reaches.length ≤ 140737488351232) (hok : ∀ y ∈ x.reaches, 0 ≤ y.net ∧ y.net < 4294967296) (W : World) (r1 : RdR 3 encEdge W.heap.size W ae x.edges) (r2 : RdR 3 encReach W.heap.size W ar x.reaches) :
    Calls Try.prog 25 #[.agg #[.int .i64 x.head.id.dir, .int .i64 x.head.id.orig, .int .i64 x.head.id.kind, .int .i64 x.head.id.nr, .int .i64 x.head.seq, .int .i64 x.head.life, .int .i64 x.level, .bool x.over, .slice ae x.edges.length ce, .slice ar x.reaches.length cr]] W fun e w' => e = .returned (.bool (tieR x)) ∧ Below W.heap.size W w' := by
  obtain ⟨n1, hn1⟩ : ∃ n, x.edges.length = n := ⟨_, rfl⟩
  obtain ⟨n2, hn2⟩ : ∃ n, x.reaches.length = n := ⟨_, rfl⟩
  rw [hn1, hn2]
  rw [hn1] at hx1
  rw [hn2] at hx2
  have HN1 := Lib.hid hn1
  have HN2 := Lib.hid hn2
  have RE := Lib.hid r1
  have RR := Lib.hid r2
  have HOK := Lib.hid hok
  have A0 := Lib.hid (At.new W.heap.size W (Nat.le_refl _) [.int .i64 x.head.id.dir, .int .i64 x.head.id.orig, .int .i64 x.head.id.kind, .int .i64 x.head.id.nr, .int .i64 x.head.seq, .int .i64 x.head.life, .int .i64 x.level, .bool x.over, .slice ae n1 ce, .slice ar n2 cr] 31 rfl)
  have HB := Lib.hid ((Below.refl W.heap.size W).alloc (Nat.le_refl _) (.cells #[.int .i64 x.head.id.dir, .int .i64 x.head.id.orig, .int .i64 x.head.id.kind, .int .i64 x.head.id.nr, .int .i64 x.head.seq, .int .i64 x.head.life, .int .i64 x.level, .bool x.over, .slice ae n1 ce, .slice ar n2 cr] 31))
  clear hn1 hn2 r1 r2 hok
  by_cases h1 : headR x.head = true
  rotate_left
  · have h1' : headR x.head = false := by simpa using h1
    have H1 := Lib.hid h1'
    clear h1 h1'
    go_enter Try.func25, Try.ntmps25
    go_wp2_with (first
      | (go_at_call 23; refine (rRightHead_any x.head _).mono ?_; rintro e w1 ⟨rfl, hb⟩; rw [H1.out]; have B1 := Lib.hid hb; have d8 : w1.cell? ⟨W.heap.size, 8, none⟩ = some _ := (hb.cell (p := ⟨W.heap.size, 8, none⟩) (by simp)).trans (A0.out.cellZ 8 rfl); have d9 : w1.cell? ⟨W.heap.size, 9, none⟩ = some _ := (hb.cell (p := ⟨W.heap.size, 9, none⟩) (by simp)).trans (A0.out.cellZ 9 rfl); clear hb))
    go_ret
    exact ⟨ret_bool (tie_bad1 H1.out).symm, HB.out.trans (B1.out.mono (by simp))⟩
  have H1 := Lib.hid h1
  clear h1
  by_cases hc : 64 < n1 ∨ 64 < n2
  · have HBAD : RowKit.Hid (tieR x = false) := by
      have e1 := HN1.out
      have e2 := HN2.out
      rcases hc with hc | hc
      · exact tie_bad2 (by omega)
      · exact tie_bad3 (by omega)
    by_cases hc1 : 64 < n1
    · clear hc
      go_enter Try.func25, Try.ntmps25
      go_wp2_with (first
        | (go_at_call 23; refine (rRightHead_any x.head _).mono ?_; rintro e w1 ⟨rfl, hb⟩; rw [H1.out]; have B1 := Lib.hid hb; have d8 : w1.cell? ⟨W.heap.size, 8, none⟩ = some _ := (hb.cell (p := ⟨W.heap.size, 8, none⟩) (by simp)).trans (A0.out.cellZ 8 rfl); have d9 : w1.cell? ⟨W.heap.size, 9, none⟩ = some _ := (hb.cell (p := ⟨W.heap.size, 9, none⟩) (by simp)).trans (A0.out.cellZ 9 rfl); clear hb))
      go_ret
      exact ⟨ret_bool HBAD.out.symm, HB.out.trans (B1.out.mono (by simp))⟩
    · have hc2 : 64 < n2 := by omega
      clear hc
      go_enter Try.func25, Try.ntmps25
      go_wp2_with (first
        | (go_at_call 23; refine (rRightHead_any x.head _).mono ?_; rintro e w1 ⟨rfl, hb⟩; rw [H1.out]; have B1 := Lib.hid hb; have d8 : w1.cell? ⟨W.heap.size, 8, none⟩ = some _ := (hb.cell (p := ⟨W.heap.size, 8, none⟩) (by simp)).trans (A0.out.cellZ 8 rfl); have d9 : w1.cell? ⟨W.heap.size, 9, none⟩ = some _ := (hb.cell (p := ⟨W.heap.size, 9, none⟩) (by simp)).trans (A0.out.cellZ 9 rfl); clear hb))
      go_ret
      exact ⟨ret_bool HBAD.out.symm, HB.out.trans (B1.out.mono (by simp))⟩
  have c1 : n1 ≤ 64 := by omega
  have c2 : n2 ≤ 64 := by omega
  clear hc
  go_enter Try.func25, Try.ntmps25
  go_wp2_with (first
    | (go_at_call 23; refine (rRightHead_any x.head _).mono ?_; rintro e w1 ⟨rfl, hb⟩; rw [H1.out]; have B1 := Lib.hid hb; have d8 : w1.cell? ⟨W.heap.size, 8, none⟩ = some _ := (hb.cell (p := ⟨W.heap.size, 8, none⟩) (by simp)).trans (A0.out.cellZ 8 rfl); have d9 : w1.cell? ⟨W.heap.size, 9, none⟩ = some _ := (hb.cell (p := ⟨W.heap.size, 9, none⟩) (by simp)).trans (A0.out.cellZ 9 rfl); clear hb))
  go_loopw [3] (fun i wr => ∃ k : Nat, k ≤ n1 ∧ i = .int .i64 k ∧ (x.edges.take k).all edgeR = true ∧ Below (W.heap.size + 1) (W.alloc (.cells #[.int .i64 x.head.id.dir, .int .i64 x.head.id.orig, .int .i64 x.head.id.kind, .int .i64 x.head.id.nr, .int .i64 x.head.seq, .int .i64 x.head.life, .int .i64 x.level, .bool x.over, .slice ae n1 ce, .slice ar n2 cr] 31)) wr) (fun i _ => n1 - (intOf i).toNat)
  case atStart => exact ⟨0, Nat.zero_le _, rfl, rfl, B1.out.mono (by simp)⟩
  case round =>
    obtain ⟨k, hk, rfl, hpre, hbel⟩ := hrel
    have HP := Lib.hid hpre
    have HBL := Lib.hid hbel
    have q8 : wr.cell? ⟨W.heap.size, 8, none⟩ = some (.slice ae n1 ce) := (hbel.cell (p := ⟨W.heap.size, 8, none⟩) (Nat.lt_succ_self _)).trans (A0.out.cellZ 8 rfl)
    clear hpre hbel
    by_cases hlt : k < n1
    · obtain ⟨b1, o1, rfl, hb1, hca⟩ := RE.out (by have := HN1.out; omega)
      obtain ⟨u, hu⟩ : ∃ u, x.edges[k]? = some u := ⟨_, List.getElem?_eq_getElem (by have := HN1.out; omega)⟩
      have g0 : wr.cell? ⟨b1, o1 + k * 3, none⟩ = some _ := (HBL.out.cell (by show b1 < W.heap.size + 1; omega)).trans ((HB.out.cell hb1).trans (hca k u hu 0 _ rfl))
      have g1 : wr.cell? ⟨b1, o1 + k * 3 + 1, none⟩ = some _ := (HBL.out.cell (by show b1 < W.heap.size + 1; omega)).trans ((HB.out.cell hb1).trans (hca k u hu 1 _ rfl))
      have g2 : wr.cell? ⟨b1, o1 + k * 3 + 2, none⟩ = some _ := (HBL.out.cell (by show b1 < W.heap.size + 1; omega)).trans ((HB.out.cell hb1).trans (hca k u hu 2 _ rfl))
      have HX := Lib.hid hu
      have k0 : (0 : Int) ≤ (k : Int) := Int.natCast_nonneg _
      have k1 : (k : Int) < (n1 : Int) := by omega
      clear hca hu
      by_cases he : edgeR u = true
      · have HE := Lib.hid he
        have HS := Lib.hid (all_next HP.out HX.out he)
        clear hlt he
        go_wp2_with (first
          | (go_at_call 40; refine (rrightEdge_any u _).mono ?_; rintro e w3 ⟨rfl, hb⟩; rw [HE.out]; have HB3 := Lib.hid (HBL.out.trans (hb.mono (by have := HBL.out.size; simpa using this))); clear hb))
        go_roundw
        case rel => exact ⟨k + 1, by omega, by go_num, HS.out, HB3.out⟩
        case measure => simp [intOf]; omega
      · have he' : edgeR u = false := by simpa using he
        have HE := Lib.hid he'
        clear hlt he he'
        go_wp2_with (first
          | (go_at_call 40; refine (rrightEdge_any u _).mono ?_; rintro e w3 ⟨rfl, hb⟩; rw [HE.out]; have HB3 := Lib.hid (HBL.out.trans (hb.mono (by have := HBL.out.size; simpa using this))); clear hb))
        go_ret
        exact ⟨ret_bool (tie_bad4 (all_not HX.out HE.out)).symm, HB.out.trans (HB3.out.mono (by omega))⟩
    · have HALL1 : RowKit.Hid (x.edges.all edgeR = true) := by
        have hp := HP.out
        have h1 := HN1.out
        rw [List.take_of_length_le (by omega)] at hp
        exact hp
      go_wp2
      clear hlt hk q8 HP
      go_loopw [4] (fun i wr => ∃ k : Nat, k ≤ n2 ∧ i = .int .i64 k ∧ (x.reaches.take k).all reachR = true ∧ Below (W.heap.size + 1) (W.alloc (.cells #[.int .i64 x.head.id.dir, .int .i64 x.head.id.orig, .int .i64 x.head.id.kind, .int .i64 x.head.id.nr, .int .i64 x.head.seq, .int .i64 x.head.life, .int .i64 x.level, .bool x.over, .slice ae n1 ce, .slice ar n2 cr] 31)) wr) (fun i _ => n2 - (intOf i).toNat)
      case atStart => exact ⟨0, Nat.zero_le _, rfl, rfl, HBL.out⟩
      case round =>
        obtain ⟨k, hk, rfl, hpre, hbel⟩ := hrel
        have HP := Lib.hid hpre
        have HBL := Lib.hid hbel
        have q9 : wr.cell? ⟨W.heap.size, 9, none⟩ = some (.slice ar n2 cr) := (hbel.cell (p := ⟨W.heap.size, 9, none⟩) (Nat.lt_succ_self _)).trans (A0.out.cellZ 9 rfl)
        clear hpre hbel
        by_cases hlt : k < n2
        · obtain ⟨b1, o1, rfl, hb1, hca⟩ := RR.out (by have := HN2.out; omega)
          obtain ⟨u, hu⟩ : ∃ u, x.reaches[k]? = some u := ⟨_, List.getElem?_eq_getElem (by have := HN2.out; omega)⟩
          have g0 : wr.cell? ⟨b1, o1 + k * 3, none⟩ = some _ := (HBL.out.cell (by show b1 < W.heap.size + 1; omega)).trans ((HB.out.cell hb1).trans (hca k u hu 0 _ rfl))
          have g1 : wr.cell? ⟨b1, o1 + k * 3 + 1, none⟩ = some _ := (HBL.out.cell (by show b1 < W.heap.size + 1; omega)).trans ((HB.out.cell hb1).trans (hca k u hu 1 _ rfl))
          have g2 : wr.cell? ⟨b1, o1 + k * 3 + 2, none⟩ = some _ := (HBL.out.cell (by show b1 < W.heap.size + 1; omega)).trans ((HB.out.cell hb1).trans (hca k u hu 2 _ rfl))
          have HX := Lib.hid hu
          have k0 : (0 : Int) ≤ (k : Int) := Int.natCast_nonneg _
          have k1 : (k : Int) < (n2 : Int) := by omega
          have hu0 := HOK.out u (List.mem_of_getElem? hu)
          clear hca hu
          by_cases he : (rgB 0 32 u.bits && shlB u.net u.bits) = true
          · have HE := Lib.hid he
            by_cases hm : rgB 0 1048576 u.metric = true
            · have HM := Lib.hid hm
              have HS := Lib.hid (all_next (f := reachR) HP.out HX.out (reach_yes hu0 he hm))
              clear hlt he hm
              go_wp2_with (first
                | (go_at_call 41; refine (rRightPrefix_any u.net u.bits hu0.1 hu0.2 _).mono ?_; rintro e w3 ⟨rfl, hb⟩; rw [HE.out]; have c2' : w3.cell? ⟨b1, o1 + k * 3 + 2, none⟩ = some (.int .i64 u.metric) := (hb.cell (p := ⟨b1, o1 + k * 3 + 2, none⟩) (by have := HBL.out.size; simp at this; show b1 < _; omega)).trans g2; have qq : w3.cell? ⟨W.heap.size, 9, none⟩ = some _ := (hb.cell (p := ⟨W.heap.size, 9, none⟩) (by have := HBL.out.size; simp at this; show W.heap.size < _; omega)).trans q9; have HB3 := Lib.hid (HBL.out.trans (hb.mono (by have := HBL.out.size; simpa using this))); clear hb)
                | (go_at_call 39; refine (rwithin_any _ _ _ _).mono ?_; rintro e w' ⟨rfl, rfl⟩; rw [HM.out]))
              go_roundw
              case rel => exact ⟨k + 1, by omega, by go_num, HS.out, HB3.out⟩
              case measure => simp [intOf]; omega
            · have hm' : rgB 0 1048576 u.metric = false := by simpa using hm
              have HM := Lib.hid hm'
              clear hlt he hm hm'
              go_wp2_with (first
                | (go_at_call 41; refine (rRightPrefix_any u.net u.bits hu0.1 hu0.2 _).mono ?_; rintro e w3 ⟨rfl, hb⟩; rw [HE.out]; have c2' : w3.cell? ⟨b1, o1 + k * 3 + 2, none⟩ = some (.int .i64 u.metric) := (hb.cell (p := ⟨b1, o1 + k * 3 + 2, none⟩) (by have := HBL.out.size; simp at this; show b1 < _; omega)).trans g2; have qq : w3.cell? ⟨W.heap.size, 9, none⟩ = some _ := (hb.cell (p := ⟨W.heap.size, 9, none⟩) (by have := HBL.out.size; simp at this; show W.heap.size < _; omega)).trans q9; have HB3 := Lib.hid (HBL.out.trans (hb.mono (by have := HBL.out.size; simpa using this))); clear hb)
                | (go_at_call 39; refine (rwithin_any _ _ _ _).mono ?_; rintro e w' ⟨rfl, rfl⟩; rw [HM.out]))
              go_ret
              exact ⟨ret_bool (tie_bad5 (all_not (f := reachR) HX.out (by simp [reachR, HM.out]))).symm, HB.out.trans (HB3.out.mono (by omega))⟩
          · have he' : (rgB 0 32 u.bits && shlB u.net u.bits) = false := by simpa using he
            have HE := Lib.hid he'
            clear hlt he he'
            go_wp2_with (first
              | (go_at_call 41; refine (rRightPrefix_any u.net u.bits hu0.1 hu0.2 _).mono ?_; rintro e w3 ⟨rfl, hb⟩; rw [HE.out]; have c2' : w3.cell? ⟨b1, o1 + k * 3 + 2, none⟩ = some (.int .i64 u.metric) := (hb.cell (p := ⟨b1, o1 + k * 3 + 2, none⟩) (by have := HBL.out.size; simp at this; show b1 < _; omega)).trans g2; have qq : w3.cell? ⟨W.heap.size, 9, none⟩ = some _ := (hb.cell (p := ⟨W.heap.size, 9, none⟩) (by have := HBL.out.size; simp at this; show W.heap.size < _; omega)).trans q9; have HB3 := Lib.hid (HBL.out.trans (hb.mono (by have := HBL.out.size; simpa using this))); clear hb))
            go_ret
            exact ⟨ret_bool (tie_bad5 (all_not (f := reachR) HX.out (reach_no HE.out))).symm, HB.out.trans (HB3.out.mono (by omega))⟩
        · have HALL2 : RowKit.Hid (x.reaches.all reachR = true) := by
            have hp := HP.out
            have h1 := HN2.out
            rw [List.take_of_length_le (by omega)] at hp
            exact hp
          have qk : wr.cell? ⟨W.heap.size, 2, none⟩ = some _ := (HBL.out.cell (p := ⟨W.heap.size, 2, none⟩) (Nat.lt_succ_self _)).trans (A0.out.cellZ 2 rfl)
          have q6 : wr.cell? ⟨W.heap.size, 6, none⟩ = some _ := (HBL.out.cell (p := ⟨W.heap.size, 6, none⟩) (Nat.lt_succ_self _)).trans (A0.out.cellZ 6 rfl)
          have q7 : wr.cell? ⟨W.heap.size, 7, none⟩ = some _ := (HBL.out.cell (p := ⟨W.heap.size, 7, none⟩) (Nat.lt_succ_self _)).trans (A0.out.cellZ 7 rfl)
          have q8 : wr.cell? ⟨W.heap.size, 8, none⟩ = some _ := (HBL.out.cell (p := ⟨W.heap.size, 8, none⟩) (Nat.lt_succ_self _)).trans (A0.out.cellZ 8 rfl)
          have HEND := Lib.hid (tie_end H1.out (by have := HN1.out; omega) (by have := HN2.out; omega) HALL1.out HALL2.out)
          by_cases hkd : x.head.id.kind = 1
          all_goals
            go_wp2_with (first
              | (go_at_call 39; refine (rwithin_any _ _ _ _).mono ?_; rintro e w' ⟨rfl, rfl⟩))
          all_goals go_ret
          all_goals exact ⟨ret_bool (by rw [HEND.out, HN1.out, HN2.out]; simp [int_beq0, *]), HB.out.trans (HBL.out.mono (by omega))⟩
end Go.Proofs.Ytjkibgnkkienbaa
